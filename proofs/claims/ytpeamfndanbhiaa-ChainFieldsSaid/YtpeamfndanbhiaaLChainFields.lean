/- The law 'ChainFields', walked. -/
import Derived.Test.YtpeamfndanbhiaaChW
namespace Go.Proofs.Ytpeamfndanbhiaa
open Go.RowKit Go.Proofs
set_option linter.unusedVariables false
set_option linter.unusedSimpArgs false

def cells3 (t u v : Tg) : Array Value := #[.int .i64 t.id, .int .i64 t.owner, .int .i64 t.heir, .int .i64 t.at', .int .i64 u.id, .int .i64 u.owner, .int .i64 u.heir, .int .i64 u.at', .int .i64 v.id, .int .i64 v.owner, .int .i64 v.heir, .int .i64 v.at']
theorem trow_three {w : World} {x : Nat} {t u v : Tg} {T : TypeId} (h : RecAt w x (cells3 t u v) T) (ht : t.B) (hu : u.B) (hv : v.B) : TRow w (some ⟨x, 0, none⟩) 3 [t, u, v] := by
  refine ⟨by simp, by simp [maxLen], fun e => (by cases e), fun s hs => ?_, fun y hy i s hs => ?_⟩
  · simp at hs
    rcases hs with rfl | rfl | rfl
    · exact ht
    · exact hu
    · exact hv
  · cases hy
    match i, hs with
    | 0, hs => simp at hs; subst hs; exact ⟨rfl, h.cell rfl, h.cell rfl, h.cell rfl, h.cell rfl⟩
    | 1, hs => simp at hs; subst hs; exact ⟨rfl, h.cell rfl, h.cell rfl, h.cell rfl, h.cell rfl⟩
    | 2, hs => simp at hs; subst hs; exact ⟨rfl, h.cell rfl, h.cell rfl, h.cell rfl, h.cell rfl⟩
    | i + 3, hs => simp at hs
def f0 : Tg := ⟨1, 1, 0, 0⟩
def f1 : Tg := ⟨2, 0, 2, 4⟩
def f2 : Tg := ⟨4, 2, 0, 4⟩
theorem f_right : rightC [f0, f1, f2] = true := rightC_iff.2 (by
  have h1 : ChOk ([f0] ++ [f1]) := ok_snoc grown_one.1 (by decide) (by decide) (fun u h => by simp at h; subst h; decide) (fun u h => by simp at h; subst h; decide)
  exact ok_snoc (l := [f0, f1]) h1 (by decide) (by decide) (fun u h => by simp at h; subst h; decide) (fun u h => by simp at h; rcases h with rfl | rfl <;> decide))
theorem f_no1 : rightC [⟨1, 1, 0, 1⟩, ⟨2, 0, 2, 4⟩, ⟨4, 2, 0, 4⟩] = false := rightC_no (fun hx => by have := hx.2.2.1 _ rfl; revert this; decide)
theorem f_no2 : rightC [⟨1, 1, 0, 0⟩, ⟨1, 0, 2, 4⟩, ⟨4, 2, 0, 4⟩] = false := rightC_not (j := 1) (t := ⟨1, 0, 2, 4⟩) rfl (fun hx => hx.2.2 0 ⟨1, 1, 0, 0⟩ (by decide) rfl rfl)
theorem f_no3 : rightC [⟨1, 1, 0, 0⟩, ⟨2, 0, 2, 4⟩, ⟨4, 2, 0, 3⟩] = false := rightC_not (j := 2) (t := ⟨4, 2, 0, 3⟩) rfl (fun hx => by have := hx.2.1 ⟨2, 0, 2, 4⟩ (by decide) rfl; revert this; decide)
theorem f_no4 : rightC [⟨1, 1, 0, 0⟩, ⟨2, 0, 0, 4⟩, ⟨4, 2, 0, 4⟩] = false := rightC_not (j := 1) (t := ⟨2, 0, 0, 4⟩) rfl (fun hx => by have := hx.1; revert this; decide)
theorem f_no5 : rightC [⟨1, 1, 0, 0⟩, ⟨2, 0, 2, 4⟩, ⟨4, 2, 1, 4⟩] = false := rightC_not (j := 2) (t := ⟨4, 2, 1, 4⟩) rfl (fun hx => by have := hx.1; revert this; decide)
theorem f_no6 : rightC [⟨1, 1, 0, 0⟩, ⟨2, 0, 2, 4⟩, ⟨4, 3, 0, 4⟩] = false := rightC_not (j := 2) (t := ⟨4, 3, 0, 4⟩) rfl (fun hx => by have := hx.1; revert this; decide)
theorem f_no7 : rightC [⟨1, 1, 0, 0⟩, ⟨1073741825, 0, 2, 4⟩, ⟨4, 2, 0, 4⟩] = false := rightC_not (j := 1) (t := ⟨1073741825, 0, 2, 4⟩) rfl (fun hx => by have := hx.1; revert this; decide)
theorem f_no8 : rightC [⟨1, 1, 0, 0⟩, ⟨2, 0, 2, 4⟩, ⟨4, 2, 0, 1099511627777⟩] = false := rightC_not (j := 2) (t := ⟨4, 2, 0, 1099511627777⟩) rfl (fun hx => by have := hx.1; revert this; decide)
theorem f_no0 : rightC [] = false := rightC_no (fun hx => absurd hx.1 (by decide))
theorem b_small {a b c d : Int} (h : -10 ≤ a ∧ a ≤ 2000000000000 ∧ -10 ≤ b ∧ b ≤ 2000000000000 ∧ -10 ≤ c ∧ c ≤ 2000000000000 ∧ -10 ≤ d ∧ d ≤ 2000000000000) : Tg.B ⟨a, b, c, d⟩ := by unfold Tg.B I64; simp only; omega

set_option maxRecDepth 100000 in
set_option maxHeartbeats 6400000 in
theorem chainFields_walk (which : Int) (w : World) :
    Calls Try.prog 9 #[.int .i64 which] w fun x w' => x = .returned (.bool true) ∧ Below w.heap.size w w' := by
  obtain ⟨d, hd⟩ : ∃ d, bits .and .i64 which 255 = d := ⟨_, rfl⟩
  have hdr : 0 ≤ d ∧ d ≤ 255 := by rw [← hd]; exact and_range which 255 (by decide)
  obtain ⟨r, hr⟩ : ∃ r, d % 9 = r := ⟨_, rfl⟩
  have hr9 : r = 0 ∨ r = 1 ∨ r = 2 ∨ r = 3 ∨ r = 4 ∨ r = 5 ∨ r = 6 ∨ r = 7 ∨ r = 8 := by omega
  have HX : Hid (RecAt (w.alloc (.cells #[.int .i64 1, .int .i64 1, .int .i64 0, .int .i64 0, .int .i64 2, .int .i64 0, .int .i64 2, .int .i64 4, .int .i64 4, .int .i64 2, .int .i64 0, .int .i64 4] 43)) w.heap.size (cells3 f0 f1 f2) 43) := Lib.hid (RecAt.new _ _ _)
  have HB : Hid (Below w.heap.size w (w.alloc (.cells #[.int .i64 1, .int .i64 1, .int .i64 0, .int .i64 0, .int .i64 2, .int .i64 0, .int .i64 2, .int .i64 4, .int .i64 4, .int .i64 2, .int .i64 0, .int .i64 4] 43))) := Lib.hid ((Below.refl _ _).alloc (Nat.le_refl _) _)
  go_enter Try.func9, Try.ntmps9
  go_upto_region 2 with fail
  generalize (w.alloc (.cells #[.int .i64 1, .int .i64 1, .int .i64 0, .int .i64 0, .int .i64 2, .int .i64 0, .int .i64 2, .int .i64 4, .int .i64 4, .int .i64 2, .int .i64 0, .int .i64 4] 43)) = w1 at *
  obtain ⟨p, hp⟩ : ∃ p, w.heap.size = p := ⟨_, rfl⟩
  have HP := Lib.hid (Nat.le_of_eq hp)
  rw [hp] at HX ⊢
  clear hp
  go_wp2_with fail
  refine (right_any (some ⟨p, 0, none⟩) 3 3 [f0, f1, f2] w1 (trow_three HX.out (b_small (by decide)) (b_small (by decide)) (b_small (by decide))) rfl).mono ?_
  rw [f_right]
  rintro e w2 ⟨rfl, hb2⟩
  have HX2 := Lib.hid (HX.out.later hb2)
  have HB2 := Lib.hid (HB.out.trans (hb2.mono HB.out.size))
  clear hb2 HX HB
  rcases hr9 with rfl | rfl | rfl | rfl | rfl | rfl | rfl | rfl | rfl
  · go_wp2_with fail
    refine (put_any none 0 0 [] w2 (TRow.nil w2) rfl).mono ?_
    rw [putCh_no f_no0]
    rintro e w3 ⟨v3, rfl, o3⟩
    have HB3 := Lib.hid (HB2.out.trans (o3.below.mono HB2.out.size))
    clear o3
    go_wp2_with fail
    refine (right_any none 0 0 [] w3 (TRow.nil w3) rfl).mono ?_
    rw [f_no0]
    rintro e w4 ⟨rfl, hb4⟩
    have HB4 := Lib.hid (HB3.out.trans (hb4.mono HB3.out.size))
    clear hb4
    go_wp2_with fail
    refine (known_any w4).mono ?_
    rintro e w5 ⟨rfl, hb5⟩
    go_wp2_with fail
    go_ret
    exact ⟨rfl, HB4.out.trans (hb5.mono HB4.out.size)⟩
  · have hc : w2.cell? ⟨p, 3, none⟩ = some (.int .i64 0) := HX2.out.cell rfl
    have hf : w2.frozen? ⟨p, 3, none⟩ = false := HX2.out.frozen 3
    have HX3 : Hid (RecAt (w2.setCell ⟨p, 3, none⟩ (.int .i64 1)) p (cells3 ⟨1, 1, 0, 1⟩ ⟨2, 0, 2, 4⟩ ⟨4, 2, 0, 4⟩) 43) := Lib.hid (HX2.out.set 3 (.int .i64 1))
    have HB3 := Lib.hid (HB2.out.setCell (p := ⟨p, 3, none⟩) HP.out (.int .i64 1))
    have HN := Lib.hid f_no1
    go_wp2_with fail
    refine (put_any (some ⟨p, 0, none⟩) 3 3 [⟨1, 1, 0, 1⟩, ⟨2, 0, 2, 4⟩, ⟨4, 2, 0, 4⟩] _ (trow_three HX3.out (b_small (by decide)) (b_small (by decide)) (b_small (by decide))) rfl).mono ?_
    rw [putCh_no HN.out]
    rintro e w3 ⟨v3, rfl, o3⟩
    have HX4 := Lib.hid (HX3.out.later o3.below)
    have HB4 := Lib.hid (HB3.out.trans (o3.below.mono HB3.out.size))
    clear o3
    go_wp2_with fail
    refine (right_any (some ⟨p, 0, none⟩) 3 3 [⟨1, 1, 0, 1⟩, ⟨2, 0, 2, 4⟩, ⟨4, 2, 0, 4⟩] _ (trow_three HX4.out (b_small (by decide)) (b_small (by decide)) (b_small (by decide))) rfl).mono ?_
    rw [HN.out]
    rintro e w4 ⟨rfl, hb4⟩
    have HB5 := Lib.hid (HB4.out.trans (hb4.mono HB4.out.size))
    clear hb4
    go_wp2_with fail
    refine (known_any w4).mono ?_
    rintro e w5 ⟨rfl, hb5⟩
    go_wp2_with fail
    go_ret
    exact ⟨rfl, HB5.out.trans (hb5.mono HB5.out.size)⟩
  · have hc : w2.cell? ⟨p, 4, none⟩ = some (.int .i64 2) := HX2.out.cell rfl
    have hf : w2.frozen? ⟨p, 4, none⟩ = false := HX2.out.frozen 4
    have HX3 : Hid (RecAt (w2.setCell ⟨p, 4, none⟩ (.int .i64 1)) p (cells3 ⟨1, 1, 0, 0⟩ ⟨1, 0, 2, 4⟩ ⟨4, 2, 0, 4⟩) 43) := Lib.hid (HX2.out.set 4 (.int .i64 1))
    have HB3 := Lib.hid (HB2.out.setCell (p := ⟨p, 4, none⟩) HP.out (.int .i64 1))
    have HN := Lib.hid f_no2
    go_wp2_with fail
    refine (put_any (some ⟨p, 0, none⟩) 3 3 [⟨1, 1, 0, 0⟩, ⟨1, 0, 2, 4⟩, ⟨4, 2, 0, 4⟩] _ (trow_three HX3.out (b_small (by decide)) (b_small (by decide)) (b_small (by decide))) rfl).mono ?_
    rw [putCh_no HN.out]
    rintro e w3 ⟨v3, rfl, o3⟩
    have HX4 := Lib.hid (HX3.out.later o3.below)
    have HB4 := Lib.hid (HB3.out.trans (o3.below.mono HB3.out.size))
    clear o3
    go_wp2_with fail
    refine (right_any (some ⟨p, 0, none⟩) 3 3 [⟨1, 1, 0, 0⟩, ⟨1, 0, 2, 4⟩, ⟨4, 2, 0, 4⟩] _ (trow_three HX4.out (b_small (by decide)) (b_small (by decide)) (b_small (by decide))) rfl).mono ?_
    rw [HN.out]
    rintro e w4 ⟨rfl, hb4⟩
    have HB5 := Lib.hid (HB4.out.trans (hb4.mono HB4.out.size))
    clear hb4
    go_wp2_with fail
    refine (known_any w4).mono ?_
    rintro e w5 ⟨rfl, hb5⟩
    go_wp2_with fail
    go_ret
    exact ⟨rfl, HB5.out.trans (hb5.mono HB5.out.size)⟩
  · have hc : w2.cell? ⟨p, 11, none⟩ = some (.int .i64 4) := HX2.out.cell rfl
    have hf : w2.frozen? ⟨p, 11, none⟩ = false := HX2.out.frozen 11
    have HX3 : Hid (RecAt (w2.setCell ⟨p, 11, none⟩ (.int .i64 3)) p (cells3 ⟨1, 1, 0, 0⟩ ⟨2, 0, 2, 4⟩ ⟨4, 2, 0, 3⟩) 43) := Lib.hid (HX2.out.set 11 (.int .i64 3))
    have HB3 := Lib.hid (HB2.out.setCell (p := ⟨p, 11, none⟩) HP.out (.int .i64 3))
    have HN := Lib.hid f_no3
    go_wp2_with fail
    refine (put_any (some ⟨p, 0, none⟩) 3 3 [⟨1, 1, 0, 0⟩, ⟨2, 0, 2, 4⟩, ⟨4, 2, 0, 3⟩] _ (trow_three HX3.out (b_small (by decide)) (b_small (by decide)) (b_small (by decide))) rfl).mono ?_
    rw [putCh_no HN.out]
    rintro e w3 ⟨v3, rfl, o3⟩
    have HX4 := Lib.hid (HX3.out.later o3.below)
    have HB4 := Lib.hid (HB3.out.trans (o3.below.mono HB3.out.size))
    clear o3
    go_wp2_with fail
    refine (right_any (some ⟨p, 0, none⟩) 3 3 [⟨1, 1, 0, 0⟩, ⟨2, 0, 2, 4⟩, ⟨4, 2, 0, 3⟩] _ (trow_three HX4.out (b_small (by decide)) (b_small (by decide)) (b_small (by decide))) rfl).mono ?_
    rw [HN.out]
    rintro e w4 ⟨rfl, hb4⟩
    have HB5 := Lib.hid (HB4.out.trans (hb4.mono HB4.out.size))
    clear hb4
    go_wp2_with fail
    refine (known_any w4).mono ?_
    rintro e w5 ⟨rfl, hb5⟩
    go_wp2_with fail
    go_ret
    exact ⟨rfl, HB5.out.trans (hb5.mono HB5.out.size)⟩
  · have hc : w2.cell? ⟨p, 6, none⟩ = some (.int .i64 2) := HX2.out.cell rfl
    have hf : w2.frozen? ⟨p, 6, none⟩ = false := HX2.out.frozen 6
    have HX3 : Hid (RecAt (w2.setCell ⟨p, 6, none⟩ (.int .i64 0)) p (cells3 ⟨1, 1, 0, 0⟩ ⟨2, 0, 0, 4⟩ ⟨4, 2, 0, 4⟩) 43) := Lib.hid (HX2.out.set 6 (.int .i64 0))
    have HB3 := Lib.hid (HB2.out.setCell (p := ⟨p, 6, none⟩) HP.out (.int .i64 0))
    have HN := Lib.hid f_no4
    go_wp2_with fail
    refine (put_any (some ⟨p, 0, none⟩) 3 3 [⟨1, 1, 0, 0⟩, ⟨2, 0, 0, 4⟩, ⟨4, 2, 0, 4⟩] _ (trow_three HX3.out (b_small (by decide)) (b_small (by decide)) (b_small (by decide))) rfl).mono ?_
    rw [putCh_no HN.out]
    rintro e w3 ⟨v3, rfl, o3⟩
    have HX4 := Lib.hid (HX3.out.later o3.below)
    have HB4 := Lib.hid (HB3.out.trans (o3.below.mono HB3.out.size))
    clear o3
    go_wp2_with fail
    refine (right_any (some ⟨p, 0, none⟩) 3 3 [⟨1, 1, 0, 0⟩, ⟨2, 0, 0, 4⟩, ⟨4, 2, 0, 4⟩] _ (trow_three HX4.out (b_small (by decide)) (b_small (by decide)) (b_small (by decide))) rfl).mono ?_
    rw [HN.out]
    rintro e w4 ⟨rfl, hb4⟩
    have HB5 := Lib.hid (HB4.out.trans (hb4.mono HB4.out.size))
    clear hb4
    go_wp2_with fail
    refine (known_any w4).mono ?_
    rintro e w5 ⟨rfl, hb5⟩
    go_wp2_with fail
    go_ret
    exact ⟨rfl, HB5.out.trans (hb5.mono HB5.out.size)⟩
  · have hc : w2.cell? ⟨p, 10, none⟩ = some (.int .i64 0) := HX2.out.cell rfl
    have hf : w2.frozen? ⟨p, 10, none⟩ = false := HX2.out.frozen 10
    have HX3 : Hid (RecAt (w2.setCell ⟨p, 10, none⟩ (.int .i64 1)) p (cells3 ⟨1, 1, 0, 0⟩ ⟨2, 0, 2, 4⟩ ⟨4, 2, 1, 4⟩) 43) := Lib.hid (HX2.out.set 10 (.int .i64 1))
    have HB3 := Lib.hid (HB2.out.setCell (p := ⟨p, 10, none⟩) HP.out (.int .i64 1))
    have HN := Lib.hid f_no5
    go_wp2_with fail
    refine (put_any (some ⟨p, 0, none⟩) 3 3 [⟨1, 1, 0, 0⟩, ⟨2, 0, 2, 4⟩, ⟨4, 2, 1, 4⟩] _ (trow_three HX3.out (b_small (by decide)) (b_small (by decide)) (b_small (by decide))) rfl).mono ?_
    rw [putCh_no HN.out]
    rintro e w3 ⟨v3, rfl, o3⟩
    have HX4 := Lib.hid (HX3.out.later o3.below)
    have HB4 := Lib.hid (HB3.out.trans (o3.below.mono HB3.out.size))
    clear o3
    go_wp2_with fail
    refine (right_any (some ⟨p, 0, none⟩) 3 3 [⟨1, 1, 0, 0⟩, ⟨2, 0, 2, 4⟩, ⟨4, 2, 1, 4⟩] _ (trow_three HX4.out (b_small (by decide)) (b_small (by decide)) (b_small (by decide))) rfl).mono ?_
    rw [HN.out]
    rintro e w4 ⟨rfl, hb4⟩
    have HB5 := Lib.hid (HB4.out.trans (hb4.mono HB4.out.size))
    clear hb4
    go_wp2_with fail
    refine (known_any w4).mono ?_
    rintro e w5 ⟨rfl, hb5⟩
    go_wp2_with fail
    go_ret
    exact ⟨rfl, HB5.out.trans (hb5.mono HB5.out.size)⟩
  · have hc : w2.cell? ⟨p, 9, none⟩ = some (.int .i64 2) := HX2.out.cell rfl
    have hf : w2.frozen? ⟨p, 9, none⟩ = false := HX2.out.frozen 9
    have HX3 : Hid (RecAt (w2.setCell ⟨p, 9, none⟩ (.int .i64 3)) p (cells3 ⟨1, 1, 0, 0⟩ ⟨2, 0, 2, 4⟩ ⟨4, 3, 0, 4⟩) 43) := Lib.hid (HX2.out.set 9 (.int .i64 3))
    have HB3 := Lib.hid (HB2.out.setCell (p := ⟨p, 9, none⟩) HP.out (.int .i64 3))
    have HN := Lib.hid f_no6
    go_wp2_with fail
    refine (put_any (some ⟨p, 0, none⟩) 3 3 [⟨1, 1, 0, 0⟩, ⟨2, 0, 2, 4⟩, ⟨4, 3, 0, 4⟩] _ (trow_three HX3.out (b_small (by decide)) (b_small (by decide)) (b_small (by decide))) rfl).mono ?_
    rw [putCh_no HN.out]
    rintro e w3 ⟨v3, rfl, o3⟩
    have HX4 := Lib.hid (HX3.out.later o3.below)
    have HB4 := Lib.hid (HB3.out.trans (o3.below.mono HB3.out.size))
    clear o3
    go_wp2_with fail
    refine (right_any (some ⟨p, 0, none⟩) 3 3 [⟨1, 1, 0, 0⟩, ⟨2, 0, 2, 4⟩, ⟨4, 3, 0, 4⟩] _ (trow_three HX4.out (b_small (by decide)) (b_small (by decide)) (b_small (by decide))) rfl).mono ?_
    rw [HN.out]
    rintro e w4 ⟨rfl, hb4⟩
    have HB5 := Lib.hid (HB4.out.trans (hb4.mono HB4.out.size))
    clear hb4
    go_wp2_with fail
    refine (known_any w4).mono ?_
    rintro e w5 ⟨rfl, hb5⟩
    go_wp2_with fail
    go_ret
    exact ⟨rfl, HB5.out.trans (hb5.mono HB5.out.size)⟩
  · have hc : w2.cell? ⟨p, 4, none⟩ = some (.int .i64 2) := HX2.out.cell rfl
    have hf : w2.frozen? ⟨p, 4, none⟩ = false := HX2.out.frozen 4
    have HX3 : Hid (RecAt (w2.setCell ⟨p, 4, none⟩ (.int .i64 1073741825)) p (cells3 ⟨1, 1, 0, 0⟩ ⟨1073741825, 0, 2, 4⟩ ⟨4, 2, 0, 4⟩) 43) := Lib.hid (HX2.out.set 4 (.int .i64 1073741825))
    have HB3 := Lib.hid (HB2.out.setCell (p := ⟨p, 4, none⟩) HP.out (.int .i64 1073741825))
    have HN := Lib.hid f_no7
    go_wp2_with fail
    refine (put_any (some ⟨p, 0, none⟩) 3 3 [⟨1, 1, 0, 0⟩, ⟨1073741825, 0, 2, 4⟩, ⟨4, 2, 0, 4⟩] _ (trow_three HX3.out (b_small (by decide)) (b_small (by decide)) (b_small (by decide))) rfl).mono ?_
    rw [putCh_no HN.out]
    rintro e w3 ⟨v3, rfl, o3⟩
    have HX4 := Lib.hid (HX3.out.later o3.below)
    have HB4 := Lib.hid (HB3.out.trans (o3.below.mono HB3.out.size))
    clear o3
    go_wp2_with fail
    refine (right_any (some ⟨p, 0, none⟩) 3 3 [⟨1, 1, 0, 0⟩, ⟨1073741825, 0, 2, 4⟩, ⟨4, 2, 0, 4⟩] _ (trow_three HX4.out (b_small (by decide)) (b_small (by decide)) (b_small (by decide))) rfl).mono ?_
    rw [HN.out]
    rintro e w4 ⟨rfl, hb4⟩
    have HB5 := Lib.hid (HB4.out.trans (hb4.mono HB4.out.size))
    clear hb4
    go_wp2_with fail
    refine (known_any w4).mono ?_
    rintro e w5 ⟨rfl, hb5⟩
    go_wp2_with fail
    go_ret
    exact ⟨rfl, HB5.out.trans (hb5.mono HB5.out.size)⟩
  · have hc : w2.cell? ⟨p, 11, none⟩ = some (.int .i64 4) := HX2.out.cell rfl
    have hf : w2.frozen? ⟨p, 11, none⟩ = false := HX2.out.frozen 11
    have HX3 : Hid (RecAt (w2.setCell ⟨p, 11, none⟩ (.int .i64 1099511627777)) p (cells3 ⟨1, 1, 0, 0⟩ ⟨2, 0, 2, 4⟩ ⟨4, 2, 0, 1099511627777⟩) 43) := Lib.hid (HX2.out.set 11 (.int .i64 1099511627777))
    have HB3 := Lib.hid (HB2.out.setCell (p := ⟨p, 11, none⟩) HP.out (.int .i64 1099511627777))
    have HN := Lib.hid f_no8
    go_wp2_with fail
    refine (put_any (some ⟨p, 0, none⟩) 3 3 [⟨1, 1, 0, 0⟩, ⟨2, 0, 2, 4⟩, ⟨4, 2, 0, 1099511627777⟩] _ (trow_three HX3.out (b_small (by decide)) (b_small (by decide)) (b_small (by decide))) rfl).mono ?_
    rw [putCh_no HN.out]
    rintro e w3 ⟨v3, rfl, o3⟩
    have HX4 := Lib.hid (HX3.out.later o3.below)
    have HB4 := Lib.hid (HB3.out.trans (o3.below.mono HB3.out.size))
    clear o3
    go_wp2_with fail
    refine (right_any (some ⟨p, 0, none⟩) 3 3 [⟨1, 1, 0, 0⟩, ⟨2, 0, 2, 4⟩, ⟨4, 2, 0, 1099511627777⟩] _ (trow_three HX4.out (b_small (by decide)) (b_small (by decide)) (b_small (by decide))) rfl).mono ?_
    rw [HN.out]
    rintro e w4 ⟨rfl, hb4⟩
    have HB5 := Lib.hid (HB4.out.trans (hb4.mono HB4.out.size))
    clear hb4
    go_wp2_with fail
    refine (known_any w4).mono ?_
    rintro e w5 ⟨rfl, hb5⟩
    go_wp2_with fail
    go_ret
    exact ⟨rfl, HB5.out.trans (hb5.mono HB5.out.size)⟩
end Go.Proofs.Ytpeamfndanbhiaa
