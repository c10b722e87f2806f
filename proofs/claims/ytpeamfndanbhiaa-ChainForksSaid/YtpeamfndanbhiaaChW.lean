/- Chains: a chain that grew by a row of numbers. -/
import Derived.Test.YtpeamfndanbhiaaChK
import Derived.Test.YtpeamfndanbhiaaZi
namespace Go.Proofs.Ytpeamfndanbhiaa
open Go.RowKit Go.Proofs
set_option linter.unusedVariables false
set_option linter.unusedSimpArgs false

/-- What grew: a chain that may be, and its end. -/
def GrewP (n : Nat) (w : World) (e : Ending) (w' : World) : Prop := ∃ v ts E, e = .returned (.tuple #[v, .int .i64 E]) ∧ TOwn w w' v ts ∧ Grown ts E n
theorem Grown.more {ts : List Tg} {E : Int} {n m : Nat} (h : Grown ts E n) (hm : n ≤ m) : Grown ts E m := ⟨h.1, h.2.1, h.2.2.1, h.2.2.2.1, h.2.2.2.2.1, by have := h.2.2.2.2.2; omega⟩
set_option maxRecDepth 100000 in
set_option maxHeartbeats 6400000 in
theorem grow_any (ad : Option Addr) (n c : Nat) (zs : List Int) (w : World) (hr : ZRow w ad c zs) (hn : zs.length = n) (hn2 : n ≤ 1000) :
    Calls Try.prog 31 #[.slice ad n c] w (GrewP n w) := by
  have HR := Lib.hid hr
  have HN := Lib.hid hn
  have hc1 := hr.1
  rw [hn] at hc1
  have hcm : c ≤ 9223372036854775807 := by have := hr.2.1; unfold maxLen at this; omega
  have HO : Hid (TOwn w (w.alloc (.cells #[.int .i64 1, .int .i64 1, .int .i64 0, .int .i64 0] 43)) (.slice (some ⟨w.heap.size, 0, none⟩) 1 1) [kTg]) := Lib.hid (TOwn.one (t := kTg) (Below.refl _ _) k_B)
  clear hr hn
  go_enter Try.func31, Try.ntmps31
  go_wp2_with fail
  go_loopw [4, 5, 6, 7, 8] (fun v at' i _ _ wr => ∃ (j m : Nat) (E : Int) (ts : List Tg), i = .int .i64 (j : Nat) ∧ at' = .int .i64 E ∧ j ≤ n ∧ 0 ≤ E ∧ E ≤ 3 * n ∧ Hid (TOwn w wr v ts) ∧ Hid (Grown ts E j)) (fun _ _ i _ _ _ => n - (intOf i).toNat)
  case atStart => exact ⟨0, 1, 0, [kTg], rfl, rfl, by omega, by omega, by omega, HO, Lib.hid grown_one⟩
  case round =>
    obtain ⟨j, _, E, ts, rfl, rfl, hj, hE0, hE3, hO, hG⟩ := hrel
    obtain ⟨m, hm⟩ : ∃ m, ts.length = m := ⟨_, rfl⟩
    obtain ⟨a4, c4, rfl, r4⟩ := hO.out.row_n hm
    have hm20 : m ≤ 20 := by rw [← hm]; exact hG.out.2.1
    have HM := Lib.hid hm
    have HR4 := Lib.hid r4
    clear hm r4
    by_cases hjn : j < n
    · have hd1 : decide (j < n) = true := by simpa using hjn
      by_cases hmn : m < 20
      · have hd2 : decide ((m : Int) < 20) = true := by simp; omega
        obtain ⟨z, hz⟩ : ∃ z, zs[j]? = some z := ⟨zs[j]'(by have := HN.out; omega), List.getElem?_eq_getElem _⟩
        obtain ⟨b0, o0, rfl, p0⟩ := (HR.out.later hO.out.below).at hz
        have hzb := HR.out.2.2.2.1 z (List.mem_of_getElem? hz)
        obtain ⟨d, hd⟩ : ∃ d, bits .and .i64 z 3 = d := ⟨_, rfl⟩
        have hd3 : 0 ≤ d ∧ d ≤ 3 := by rw [← hd]; exact and_range z 3 (by decide)
        obtain ⟨d4, hd4⟩ : ∃ d, bits .and .i64 z 4 = d := ⟨_, rfl⟩
        obtain ⟨d1, hd1'⟩ : ∃ d, bits .and .i64 (z / 8) 1 = d := ⟨_, rfl⟩
        have hd11 : 0 ≤ d1 ∧ d1 ≤ 1 := by rw [← hd1']; exact and_range _ 1 (by decide)
        obtain ⟨d16, hd16⟩ : ∃ d, bits .and .i64 z 16 = d := ⟨_, rfl⟩
        have hE3' : E + d ≤ 3 * n := by have := hG.out.2.2.2.2.2; omega
        have HG2 := Lib.hid (hG.out.on hd3.1 hd3.2)
        clear hz
        by_cases h4 : d4 = 0
        · have h4b : (d4 == 0) = true := by simpa using h4
          clear h4
          go_wp2_with fail
          go_roundw
          case rel => exact ⟨j + 1, 0, E + d, ts, by go_num, rfl, by omega, by omega, by omega, hO, HG2⟩
          case measure => simp [intOf]; omega
        · have h4b : (d4 == 0) = false := by simpa using h4
          clear h4
          obtain ⟨N, hNN⟩ : ∃ N, nextC ts (1 + d1) = N := ⟨_, rfl⟩
          have hN1 : 1 ≤ N ∧ N ≤ 1000 := by
            have h1 := next_above hG.out.ids (1 + d1)
            have h2 : nextMost ts ≤ 2 * ts.length := foldl_top ts 0 _ (by omega) hG.out.2.2.1
            have h3 := HM.out
            rw [hNN] at h1
            omega
          by_cases h16 : d16 = 0
          · have h16b : (d16 != 0) = false := by simpa using h16
            clear h16
            go_wp2_with fail
            refine (rnext_any a4 m c4 ts (1 + d1) wr HR4.out HM.out).mono ?_
            rw [hNN]
            rintro e w1 ⟨rfl, rfl⟩
            have p0' : (wr.alloc (.cells #[.int .i64 N, .int .i64 (1 + d1), .int .i64 0, .int .i64 (E + d)] 43)).cell? ⟨b0, o0 + j, none⟩ = some (.int .i64 z) := by
              rw [((Below.refl _ _).alloc (Nat.le_refl _) _ : Below wr.heap.size wr _).cell (World.block_lt_of_cell? wr _ p0)]; exact p0
            have HTB : Hid (Tg.B ⟨N, 1 + d1, 0, E + d⟩) := Lib.hid (by unfold Tg.B I64; simp only; omega)
            have HO1 := Lib.hid (hO.out.later ((Below.refl _ _).alloc (Nat.le_refl _) (.cells #[.int .i64 N, .int .i64 (1 + d1), .int .i64 (0), .int .i64 (E + d)] 43)))
            have HG3 : Hid (Grown (ts ++ [⟨N, 1 + d1, 0, E + d⟩]) (E + d) (j + 1)) := Lib.hid (by
              rw [← hNN]
              exact HG2.out.tag (by rw [HM.out]; exact hmn) (by omega) (site := 1 + d1) (o := 1 + d1) (hr := 0) (by omega) (by omega) (by omega))
            clear hNN
            have HX5 := Lib.hid (RecAt.new wr #[.int .i64 N, .int .i64 (1 + d1), .int .i64 0, .int .i64 (E + d)] 43)
            go_upto_region 12 with fail
            generalize (wr.alloc (.cells #[.int .i64 N, .int .i64 (1 + d1), .int .i64 0, .int .i64 (E + d)] 43)) = w5 at *
            generalize wr.heap.size = p5 at *
            obtain ⟨x0, x1, x2, x3⟩ := HX5.out.c4
            go_wp2_with (at_builtin; refine wp_tag rfl _ _ rfl _ _ rfl w HO1.out ⟨N, 1 + d1, 0, E + d⟩ HTB.out rfl (by rw [HM.out]; omega) ?_; intro v2 w2 o2 hgr)
            try clear hgr
            have HO2 := Lib.hid o2
            clear o2
            go_wp2_with fail
            go_roundw
            case rel => exact ⟨j + 1, 0, E + d, _, by go_num, rfl, by omega, by omega, by omega, HO2, HG3⟩
            case measure => simp [intOf]; omega
          · have h16b : (d16 != 0) = true := by simpa using h16
            clear h16
            go_wp2_with fail
            refine (rnext_any a4 m c4 ts (1 + d1) wr HR4.out HM.out).mono ?_
            rw [hNN]
            rintro e w1 ⟨rfl, rfl⟩
            have p0' : (wr.alloc (.cells #[.int .i64 N, .int .i64 (1 + d1), .int .i64 0, .int .i64 (E + d)] 43)).cell? ⟨b0, o0 + j, none⟩ = some (.int .i64 z) := by
              rw [((Below.refl _ _).alloc (Nat.le_refl _) _ : Below wr.heap.size wr _).cell (World.block_lt_of_cell? wr _ p0)]; exact p0
            have HTB : Hid (Tg.B ⟨N, 0, 3 - (1 + d1), E + d⟩) := Lib.hid (by unfold Tg.B I64; simp only; omega)
            have HO1 := Lib.hid (hO.out.later ((Below.refl _ _).alloc (Nat.le_refl _) (.cells #[.int .i64 N, .int .i64 (0), .int .i64 (3 - (1 + d1)), .int .i64 (E + d)] 43)))
            have HG3 : Hid (Grown (ts ++ [⟨N, 0, 3 - (1 + d1), E + d⟩]) (E + d) (j + 1)) := Lib.hid (by
              rw [← hNN]
              exact HG2.out.tag (by rw [HM.out]; exact hmn) (by omega) (site := 1 + d1) (o := 0) (hr := 3 - (1 + d1)) (by omega) (by omega) (by omega))
            clear hNN
            have HX5 := Lib.hid (RecAt.new wr #[.int .i64 N, .int .i64 0, .int .i64 (3 - (1 + d1)), .int .i64 (E + d)] 43)
            go_upto_region 12 with fail
            generalize (wr.alloc (.cells #[.int .i64 N, .int .i64 0, .int .i64 (3 - (1 + d1)), .int .i64 (E + d)] 43)) = w5 at *
            generalize wr.heap.size = p5 at *
            obtain ⟨x0, x1, x2, x3⟩ := HX5.out.c4
            go_wp2_with (at_builtin; refine wp_tag rfl _ _ rfl _ _ rfl w HO1.out ⟨N, 0, 3 - (1 + d1), E + d⟩ HTB.out rfl (by rw [HM.out]; omega) ?_; intro v2 w2 o2 hgr)
            try clear hgr
            have HO2 := Lib.hid o2
            clear o2
            go_wp2_with fail
            go_roundw
            case rel => exact ⟨j + 1, 0, E + d, _, by go_num, rfl, by omega, by omega, by omega, HO2, HG3⟩
            case measure => simp [intOf]; omega
      · have hd2 : decide ((m : Int) < 20) = false := by simp; omega
        have HGN := Lib.hid (hG.out.more (Nat.le_of_lt hjn))
        go_wp2_with fail
        go_ret2
        exact ⟨_, _, _, rfl, hO.out, HGN.out⟩
    · have hd1 : decide (j < n) = false := by simpa using hjn
      have HGN := Lib.hid (hG.out.more hj)
      go_wp2_with fail
      go_ret2
      exact ⟨_, _, _, rfl, hO.out, HGN.out⟩
end Go.Proofs.Ytpeamfndanbhiaa
