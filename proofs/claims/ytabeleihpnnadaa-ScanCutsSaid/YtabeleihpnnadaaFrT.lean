/- Frames: what is taken. -/
import Derived.Test.YtabeleihpnnadaaFr
import Derived.Deep.RegionWith
import Derived.Deep.DeepCutAuto
namespace Go.Proofs.Ytabeleihpnnadaa
open Go.RowKit
set_option linter.unusedVariables false
set_option linter.unusedSimpArgs false

theorem wrap_small {n : Nat} (h : n < 9223372036854775808) : wrap64 (n : Int) = n := by unfold wrap64; omega
theorem ret2_eq {v v' : Value} {x x' : Value} (h : v = v') (h2 : x = x') : Ending.returned (.tuple #[v, x]) = .returned (.tuple #[v', x']) := by rw [h, h2]

theorem begun_right {l : List UInt8} (h22 : 22 ≤ l.length) (hq : fieldL l 0 4 = 1162495816) (hc : fieldL l 16 2 + 22 ≤ l.length) :
    rightE (wrap64 (fieldL l 4 4 : Nat)) (wrap64 (fieldL l 8 8 : Nat)) (fieldL l 16 2) = (begunA l).isSome ∧ ∀ t s n, begunA l = some (t, s, n) → wrap64 (fieldL l 4 4 : Nat) = t ∧ wrap64 (fieldL l 8 8 : Nat) = s ∧ fieldL l 16 2 = n := by
  have h4 : fieldL l 4 4 < 4294967296 := fieldL_lt l 4 4
  have h8 : fieldL l 8 8 < 18446744073709551616 := fieldL_lt l 8 8
  have w4 := wrap_small (n := fieldL l 4 4) (by omega)
  rw [w4]
  refine ⟨?_, fun t s n h => ?_⟩
  · cases hr : rightE (fieldL l 4 4 : Nat) (fieldL l 8 8 : Nat) (fieldL l 16 2) with
    | true =>
      have hb : begunA l = some (fieldL l 4 4, fieldL l 8 8, fieldL l 16 2) := by unfold begunA; rw [if_pos ⟨h22, hq, hr, hc⟩]
      have := rightE_iff.1 hr
      rw [hb, wrap_small (by omega), hr]; rfl
    | false =>
      have hb : begunA l = none := begunA_none (fun h => by rw [hr] at h; exact absurd h.2.2.1 (by simp))
      rw [hb]
      refine rightE_no (fun h => rightE_not hr ?_)
      unfold wrap64 at h; omega
  · obtain ⟨c1, c2, c3, c4, c5, c6, c7⟩ := begunA_some h
    have := rightE_iff.1 c3
    rw [c5, c6, c7, wrap_small (by omega)]; exact ⟨rfl, rfl, rfl⟩

def Began (l : List UInt8) (w : World) (e : Ending) (w' : World) : Prop :=
  ∃ (T Z : Int) (x : Option Addr) (n c : Nat), e = .returned (.tuple #[.agg #[.int .i64 T, .int .i64 Z, .slice x n c], .bool (begunA l).isSome]) ∧ Below w.heap.size w w' ∧
      ∀ t s k, begunA l = some (t, s, k) → T = t ∧ Z = s ∧ n = k

set_option maxRecDepth 20000 in
set_option maxHeartbeats 3200000 in
theorem begun_any (ad : Option Addr) (m cap : Nat) (l : List UInt8) (w : World) (hr : Row w ad cap l) (hm : l.length = m) (hlen : m ≤ 100000) :
    Calls Try.prog 35 #[.slice ad m cap] w fun e w' => Began l w e w' := by
  have HM := Lib.hid hm
  have HR := Lib.hid hr
  rcases (show m < 22 ∨ 22 ≤ m by omega) with h22 | h22
  · have HA := Lib.hid (begunA_none (m := l) (by omega))
    clear hm hr
    go_enter Try.func35, Try.ntmps35
    go_wp2_with fail
    refine bodyPost_ret (results_ct rfl rfl (RecAt.new w #[.int .i64 0, .int .i64 0, .slice none 0 0] 38) Try.underlying38 rfl (by kernel_rfl)) rfl ?_
    exact ⟨0, 0, none, 0, 0, by rw [HA.out]; rfl, (Below.refl _ _).alloc (Nat.le_refl _) _, fun t s n h => by rw [HA.out] at h; cases h⟩
  · have HQ := fieldL_lt l 0 4
    have HC : fieldL l 16 2 < 65536 := fieldL_lt l 16 2
    have hQ4 := Lib.hid (wrap_small (n := fieldL l 0 4) (by omega))
    have hC2 := Lib.hid (wrap_small (n := fieldL l 16 2) (by omega))
    have hba : Below w.heap.size w (w.alloc (.cells #[.int .i64 0, .int .i64 0, .slice none 0 0] 38)) := (Below.refl _ _).alloc (Nat.le_refl _) _
    have hd : decide ((m : Int) < 22) = false := by simp; omega
    have HB := Lib.hid hba
    have HX : Hid (RecAt (w.alloc (.cells #[.int .i64 0, .int .i64 0, .slice none 0 0] 38)) w.heap.size #[.int .i64 0, .int .i64 0, .slice none 0 0] 38) := Lib.hid (RecAt.new _ _ _)
    have N0 := Lib.hid (number_any ad m cap l 0 4 _ (hr.later hba) hm hlen (by omega) (by omega))
    have N16 := Lib.hid (number_any ad m cap l 16 2 _ (hr.later hba) hm hlen (by omega) (by omega))
    rw [hQ4.out] at N0
    rw [hC2.out] at N16
    clear hQ4 hC2 hba
    by_cases hq : fieldL l 0 4 = 1162495816
    · by_cases hc : fieldL l 16 2 + 22 ≤ m
      · have hcc : ((fieldL l 16 2 : Nat) : Int) ≤ (m : Int) - 22 := by omega
        have N4 := Lib.hid (fun w1 (hb : Below w.heap.size w w1) => number_any ad m cap l 4 4 w1 (hr.later hb) hm hlen (by omega) (by omega))
        have N8 := Lib.hid (fun w1 (hb : Below w.heap.size w w1) => number_any ad m cap l 8 8 w1 (hr.later hb) hm hlen (by omega) (by omega))
        have hbr := begun_right (l := l) (by omega) hq (by omega)
        have hmc := hr.1
        rw [hm] at hmc
        obtain ⟨bk, off, rfl, hcell⟩ := hr.at (by omega)
        clear hm hr HQ hcell
        rw [hq, show ((1162495816 : Nat) : Int) = (1162495816 : Int) by omega] at N0
        have HSL : Hid (∀ W, (Instr.slice 34 (.slice (some ⟨bk, off, none⟩) m cap) (some (.int .i64 18)) (some (.int .i64 (18 + ((fieldL l 16 2 : Nat) : Int)))) none).run Try.prog W = .ok (.slice (some ⟨bk, off + 18, none⟩) (fieldL l 16 2) (cap - 18)) W) := Lib.hid fun W => by
          have := run_sl W bk off m cap 18 (18 + fieldL l 16 2) (by omega) (by omega) (by omega)
          rw [show 18 + fieldL l 16 2 - 18 = fieldL l 16 2 by omega, show ((18 + fieldL l 16 2 : Nat) : Int) = 18 + (fieldL l 16 2 : Nat) by omega] at this
          exact this
        generalize fieldL l 16 2 = C at *
        obtain ⟨T, hT⟩ : ∃ T, wrap64 (fieldL l 4 4 : Nat) = T := ⟨_, rfl⟩
        obtain ⟨Z, hZ⟩ : ∃ Z, wrap64 (fieldL l 8 8 : Nat) = Z := ⟨_, rfl⟩
        rw [hT] at N4
        rw [hZ] at N8
        rw [hT, hZ] at hbr
        have HBR := Lib.hid hbr
        clear hbr
        have HT := Lib.hid hT
        have HZ := Lib.hid hZ
        clear hT hZ hq
        go_enter Try.func35, Try.ntmps35
        go_wp2_with fail
        refine N0.out.mono ?_
        rintro e w1 ⟨rfl, rfl⟩
        go_wp2_with fail
        refine N16.out.mono ?_
        rintro e w1 ⟨rfl, rfl⟩
        go_wp2_with fail
        -- REG 6
        refine wp_region_xtab (L := fun ph => match ph with | 0 => [cV (.slice (some ⟨bk, off, none⟩) m cap), cV (.int .i64 T), cV (.slice (some ⟨bk, off, none⟩) m cap), cV (.int .i64 Z), cV (.slice (some ⟨bk, off, none⟩) m cap), cV (.int .i64 (C : Nat)), cV (.int .i64 (18 + (C : Int))), cV (.slice (some ⟨bk, off + 18, none⟩) C (cap - 18)), cV (.agg #[.int .i64 T, .int .i64 Z, .slice (some ⟨bk, off + 18, none⟩) C (cap - 18)]), cV (.pointer (some ⟨w.heap.size + 1, 0, none⟩)), tV] | 1 => [cV (.slice (some ⟨bk, off, none⟩) m cap), cV (.int .i64 T), cV (.slice (some ⟨bk, off, none⟩) m cap), cV (.int .i64 Z), cV (.slice (some ⟨bk, off, none⟩) m cap), cV (.int .i64 (C : Nat)), cV (.int .i64 (18 + (C : Int))), cV (.slice (some ⟨bk, off + 18, none⟩) C (cap - 18)), cV (.agg #[.int .i64 T, .int .i64 Z, .slice (some ⟨bk, off + 18, none⟩) C (cap - 18)]), cV (.pointer (some ⟨w.heap.size + 1, 0, none⟩)), tV] | _ => [cV (.slice (some ⟨bk, off, none⟩) m cap), cV (.int .i64 T), cV (.slice (some ⟨bk, off, none⟩) m cap), cV (.int .i64 Z), cV (.slice (some ⟨bk, off, none⟩) m cap), cV (.int .i64 (C : Nat)), cV (.int .i64 (18 + (C : Int))), cV (.slice (some ⟨bk, off + 18, none⟩) C (cap - 18)), cV (.agg #[.int .i64 T, .int .i64 Z, .slice (some ⟨bk, off + 18, none⟩) C (cap - 18)]), cV (.pointer (some ⟨w.heap.size + 1, 0, none⟩)), tV]) (fun ph wq => match ph with | 0 => wq = (w.alloc (.cells #[.int .i64 0, .int .i64 0, .slice none 0 0] 38)).drew | 1 => wq = (w.alloc (.cells #[.int .i64 0, .int .i64 0, .slice none 0 0] 38)).drew.alloc (.cells #[.int .i64 0, .int .i64 0, .slice none 0 0] 38) | _ => RecAt wq (w.heap.size + 1) #[.int .i64 T, .int .i64 Z, .slice (some ⟨bk, off + 18, none⟩) C (cap - 18)] 38 ∧ RecAt wq w.heap.size #[.int .i64 0, .int .i64 0, .slice none 0 0] 38 ∧ Below w.heap.size w wq) [9, 10] [(0, 1), (0, 1), (0, 1), (0, 1), (0, 1), (0, 1), (0, 1), (0, 1), (0, 1), (0, 1), (1, 2)] [[(0, none)], [(23, some 0)], [(0, none)], [(25, some 2)], [(0, none)], [(4, none)], [(28, some 5)], [(27, some 4), (29, some 6)], [(24, some 1), (26, some 3), (30, some 7)], [], [(5, some 9), (31, some 8)]] 11 2 35 (by kernel_rfl) rfl rfl rfl (by kernel_rfl) (by kernel_rfl) (by decide) (by kernel_rfl) ?_ ?_ ?_ ?_
        · rfl
        · show ∀ i, i < 11 → _
          iterate 11 (refine fls ?_ ?_)
          · exact fl0
          · intro hne lo hi ph hran hp1 hp2 a w1 hJ hsz hs      -- 0: slot 23
            obtain ⟨rfl, rfl⟩ : 0 = lo ∧ 1 = hi := Prod.mk.inj (Option.some.inj hran)
            rcases (by omega : ph = 0 ∨ ph = 1) with rfl | rfl
            · obtain ⟨h0, _⟩ := hs
              have h0 : a.tmps.getD 0 undef = .slice (some ⟨bk, off, none⟩) m cap := h0
              refine op_runX rfl rfl (v := .slice (some ⟨bk, off, none⟩) m cap) ?_ rfl
              simp [execOp, Act.eval, h0, go_sem]
            · obtain ⟨h0, _⟩ := hs
              have h0 : a.tmps.getD 0 undef = .slice (some ⟨bk, off, none⟩) m cap := h0
              refine op_runX rfl rfl (v := .slice (some ⟨bk, off, none⟩) m cap) ?_ rfl
              simp [execOp, Act.eval, h0, go_sem]
          · intro hne lo hi ph hran hp1 hp2 a w1 hJ hsz hs      -- 1: slot 24
            obtain ⟨rfl, rfl⟩ : 0 = lo ∧ 1 = hi := Prod.mk.inj (Option.some.inj hran)
            rcases (by omega : ph = 0 ∨ ph = 1) with rfl | rfl
            · obtain ⟨h0, _⟩ := hs
              have h0 : a.tmps.getD 23 undef = .slice (some ⟨bk, off, none⟩) m cap := h0
              refine op_callX rfl rfl (f := 37) (args := #[.slice (some ⟨bk, off, none⟩) m cap, .int .i64 4, .int .i64 4]) (by simp [execOp, Act.eval, resolve, h0, go_sem]) ?_
              exact calls_x (N4.out w1 (by subst hJ; first | exact HB.out.drew | exact HB.out.drew.alloc (by simp) _))
            · obtain ⟨h0, _⟩ := hs
              have h0 : a.tmps.getD 23 undef = .slice (some ⟨bk, off, none⟩) m cap := h0
              refine op_callX rfl rfl (f := 37) (args := #[.slice (some ⟨bk, off, none⟩) m cap, .int .i64 4, .int .i64 4]) (by simp [execOp, Act.eval, resolve, h0, go_sem]) ?_
              exact calls_x (N4.out w1 (by subst hJ; first | exact HB.out.drew | exact HB.out.drew.alloc (by simp) _))
          · intro hne lo hi ph hran hp1 hp2 a w1 hJ hsz hs      -- 2: slot 25
            obtain ⟨rfl, rfl⟩ : 0 = lo ∧ 1 = hi := Prod.mk.inj (Option.some.inj hran)
            rcases (by omega : ph = 0 ∨ ph = 1) with rfl | rfl
            · obtain ⟨h0, _⟩ := hs
              have h0 : a.tmps.getD 0 undef = .slice (some ⟨bk, off, none⟩) m cap := h0
              refine op_runX rfl rfl (v := .slice (some ⟨bk, off, none⟩) m cap) ?_ rfl
              simp [execOp, Act.eval, h0, go_sem]
            · obtain ⟨h0, _⟩ := hs
              have h0 : a.tmps.getD 0 undef = .slice (some ⟨bk, off, none⟩) m cap := h0
              refine op_runX rfl rfl (v := .slice (some ⟨bk, off, none⟩) m cap) ?_ rfl
              simp [execOp, Act.eval, h0, go_sem]
          · intro hne lo hi ph hran hp1 hp2 a w1 hJ hsz hs      -- 3: slot 26
            obtain ⟨rfl, rfl⟩ : 0 = lo ∧ 1 = hi := Prod.mk.inj (Option.some.inj hran)
            rcases (by omega : ph = 0 ∨ ph = 1) with rfl | rfl
            · obtain ⟨h0, _⟩ := hs
              have h0 : a.tmps.getD 25 undef = .slice (some ⟨bk, off, none⟩) m cap := h0
              refine op_callX rfl rfl (f := 37) (args := #[.slice (some ⟨bk, off, none⟩) m cap, .int .i64 8, .int .i64 8]) (by simp [execOp, Act.eval, resolve, h0, go_sem]) ?_
              exact calls_x (N8.out w1 (by subst hJ; first | exact HB.out.drew | exact HB.out.drew.alloc (by simp) _))
            · obtain ⟨h0, _⟩ := hs
              have h0 : a.tmps.getD 25 undef = .slice (some ⟨bk, off, none⟩) m cap := h0
              refine op_callX rfl rfl (f := 37) (args := #[.slice (some ⟨bk, off, none⟩) m cap, .int .i64 8, .int .i64 8]) (by simp [execOp, Act.eval, resolve, h0, go_sem]) ?_
              exact calls_x (N8.out w1 (by subst hJ; first | exact HB.out.drew | exact HB.out.drew.alloc (by simp) _))
          · intro hne lo hi ph hran hp1 hp2 a w1 hJ hsz hs      -- 4: slot 27
            obtain ⟨rfl, rfl⟩ : 0 = lo ∧ 1 = hi := Prod.mk.inj (Option.some.inj hran)
            rcases (by omega : ph = 0 ∨ ph = 1) with rfl | rfl
            · obtain ⟨h0, _⟩ := hs
              have h0 : a.tmps.getD 0 undef = .slice (some ⟨bk, off, none⟩) m cap := h0
              refine op_runX rfl rfl (v := .slice (some ⟨bk, off, none⟩) m cap) ?_ rfl
              simp [execOp, Act.eval, h0, go_sem]
            · obtain ⟨h0, _⟩ := hs
              have h0 : a.tmps.getD 0 undef = .slice (some ⟨bk, off, none⟩) m cap := h0
              refine op_runX rfl rfl (v := .slice (some ⟨bk, off, none⟩) m cap) ?_ rfl
              simp [execOp, Act.eval, h0, go_sem]
          · intro hne lo hi ph hran hp1 hp2 a w1 hJ hsz hs      -- 5: slot 28
            obtain ⟨rfl, rfl⟩ : 0 = lo ∧ 1 = hi := Prod.mk.inj (Option.some.inj hran)
            rcases (by omega : ph = 0 ∨ ph = 1) with rfl | rfl
            · obtain ⟨h0, _⟩ := hs
              have h0 : a.tmps.getD 4 undef = .int .i64 (C : Nat) := h0
              refine op_runX rfl rfl (v := .int .i64 (C : Nat)) ?_ rfl
              simp [execOp, Act.eval, h0, go_sem]
            · obtain ⟨h0, _⟩ := hs
              have h0 : a.tmps.getD 4 undef = .int .i64 (C : Nat) := h0
              refine op_runX rfl rfl (v := .int .i64 (C : Nat)) ?_ rfl
              simp [execOp, Act.eval, h0, go_sem]
          · intro hne lo hi ph hran hp1 hp2 a w1 hJ hsz hs      -- 6: slot 29
            obtain ⟨rfl, rfl⟩ : 0 = lo ∧ 1 = hi := Prod.mk.inj (Option.some.inj hran)
            rcases (by omega : ph = 0 ∨ ph = 1) with rfl | rfl
            · obtain ⟨h0, _⟩ := hs
              have h0 : a.tmps.getD 28 undef = .int .i64 (C : Nat) := h0
              have c : IntKind.i64.wrap (18 + (C : Int)) = 18 + (C : Int) := by rw [IntKind.wrap_i64]; omega
              refine op_runX rfl rfl (v := .int .i64 (18 + (C : Int))) ?_ rfl
              simp [execOp, Act.eval, h0, c, go_sem]
            · obtain ⟨h0, _⟩ := hs
              have h0 : a.tmps.getD 28 undef = .int .i64 (C : Nat) := h0
              have c : IntKind.i64.wrap (18 + (C : Int)) = 18 + (C : Int) := by rw [IntKind.wrap_i64]; omega
              refine op_runX rfl rfl (v := .int .i64 (18 + (C : Int))) ?_ rfl
              simp [execOp, Act.eval, h0, c, go_sem]
          · intro hne lo hi ph hran hp1 hp2 a w1 hJ hsz hs      -- 7: slot 30
            obtain ⟨rfl, rfl⟩ : 0 = lo ∧ 1 = hi := Prod.mk.inj (Option.some.inj hran)
            rcases (by omega : ph = 0 ∨ ph = 1) with rfl | rfl
            · obtain ⟨h0, h1, _⟩ := hs
              have h0 : a.tmps.getD 27 undef = .slice (some ⟨bk, off, none⟩) m cap := h0
              have h1 : a.tmps.getD 29 undef = .int .i64 (18 + (C : Int)) := h1
              have c := HSL.out w1
              refine op_runX rfl rfl (v := .slice (some ⟨bk, off + 18, none⟩) C (cap - 18)) ?_ rfl
              simp [execOp, Act.eval, h0, h1, c, go_sem]
            · obtain ⟨h0, h1, _⟩ := hs
              have h0 : a.tmps.getD 27 undef = .slice (some ⟨bk, off, none⟩) m cap := h0
              have h1 : a.tmps.getD 29 undef = .int .i64 (18 + (C : Int)) := h1
              have c := HSL.out w1
              refine op_runX rfl rfl (v := .slice (some ⟨bk, off + 18, none⟩) C (cap - 18)) ?_ rfl
              simp [execOp, Act.eval, h0, h1, c, go_sem]
          · intro hne lo hi ph hran hp1 hp2 a w1 hJ hsz hs      -- 8: slot 31
            obtain ⟨rfl, rfl⟩ : 0 = lo ∧ 1 = hi := Prod.mk.inj (Option.some.inj hran)
            rcases (by omega : ph = 0 ∨ ph = 1) with rfl | rfl
            · obtain ⟨h0, h1, h2, _⟩ := hs
              have h0 : a.tmps.getD 24 undef = .int .i64 T := h0
              have g0 : a.tmps[24]?.getD undef = .int .i64 T := (Array.getD_eq_getD_getElem? ..).symm.trans h0
              have h1 : a.tmps.getD 26 undef = .int .i64 Z := h1
              have g1 : a.tmps[26]?.getD undef = .int .i64 Z := (Array.getD_eq_getD_getElem? ..).symm.trans h1
              have h2 : a.tmps.getD 30 undef = .slice (some ⟨bk, off + 18, none⟩) C (cap - 18) := h2
              have g2 : a.tmps[30]?.getD undef = .slice (some ⟨bk, off + 18, none⟩) C (cap - 18) := (Array.getD_eq_getD_getElem? ..).symm.trans h2
              refine op_runX rfl rfl (v := .agg #[.int .i64 T, .int .i64 Z, .slice (some ⟨bk, off + 18, none⟩) C (cap - 18)]) ?_ rfl
              simp [execOp, Act.eval, g0, g1, g2, go_sem]
            · obtain ⟨h0, h1, h2, _⟩ := hs
              have h0 : a.tmps.getD 24 undef = .int .i64 T := h0
              have g0 : a.tmps[24]?.getD undef = .int .i64 T := (Array.getD_eq_getD_getElem? ..).symm.trans h0
              have h1 : a.tmps.getD 26 undef = .int .i64 Z := h1
              have g1 : a.tmps[26]?.getD undef = .int .i64 Z := (Array.getD_eq_getD_getElem? ..).symm.trans h1
              have h2 : a.tmps.getD 30 undef = .slice (some ⟨bk, off + 18, none⟩) C (cap - 18) := h2
              have g2 : a.tmps[30]?.getD undef = .slice (some ⟨bk, off + 18, none⟩) C (cap - 18) := (Array.getD_eq_getD_getElem? ..).symm.trans h2
              refine op_runX rfl rfl (v := .agg #[.int .i64 T, .int .i64 Z, .slice (some ⟨bk, off + 18, none⟩) C (cap - 18)]) ?_ rfl
              simp [execOp, Act.eval, g0, g1, g2, go_sem]
          · intro hne lo hi ph hran hp1 hp2 a w1 hJ hsz hs      -- 9: slot 5
            exact absurd (by decide) hne
          · intro hne lo hi ph hran hp1 hp2 a w1 hJ hsz hs      -- 10: slot None
            exact absurd (by decide) hne
        · show ∀ ph, ph < 2 → _
          iterate 2 (refine fls ?_ ?_)
          · exact fl0
          · intro i hi a w1 hJ hsz hs      -- heavy 0: op 9 slot 5
            obtain rfl : 9 = i := Option.some.inj hi
            have hcalm : ∀ (wq1 wq2 : World) (kk : Nat) (v0 : Value), kk ≠ 9 → VL [cV (.slice (some ⟨bk, off, none⟩) m cap), cV (.int .i64 T), cV (.slice (some ⟨bk, off, none⟩) m cap), cV (.int .i64 Z), cV (.slice (some ⟨bk, off, none⟩) m cap), cV (.int .i64 (C : Nat)), cV (.int .i64 (18 + (C : Int))), cV (.slice (some ⟨bk, off + 18, none⟩) C (cap - 18)), cV (.agg #[.int .i64 T, .int .i64 Z, .slice (some ⟨bk, off + 18, none⟩) C (cap - 18)]), cV (.pointer (some ⟨w.heap.size + 1, 0, none⟩)), tV] kk wq1 v0 → VL [cV (.slice (some ⟨bk, off, none⟩) m cap), cV (.int .i64 T), cV (.slice (some ⟨bk, off, none⟩) m cap), cV (.int .i64 Z), cV (.slice (some ⟨bk, off, none⟩) m cap), cV (.int .i64 (C : Nat)), cV (.int .i64 (18 + (C : Int))), cV (.slice (some ⟨bk, off + 18, none⟩) C (cap - 18)), cV (.agg #[.int .i64 T, .int .i64 Z, .slice (some ⟨bk, off + 18, none⟩) C (cap - 18)]), cV (.pointer (some ⟨w.heap.size + 1, 0, none⟩)), tV] kk wq2 v0 := Calm.all (n := 0) ⟨.inl ⟨_, rfl, rfl⟩, .inl ⟨_, rfl, rfl⟩, .inl ⟨_, rfl, rfl⟩, .inl ⟨_, rfl, rfl⟩, .inl ⟨_, rfl, rfl⟩, .inl ⟨_, rfl, rfl⟩, .inl ⟨_, rfl, rfl⟩, .inl ⟨_, rfl, rfl⟩, .inl ⟨_, rfl, rfl⟩, .inr (.inr rfl), .inr (.inl rfl), trivial⟩
            refine hv_run rfl rfl (v := .pointer (some ⟨w.heap.size + 1, 0, none⟩)) (w' := w1.alloc (.cells #[.int .i64 0, .int .i64 0, .slice none 0 0] 38)) ?_ rfl ?_ (hcalm _ _)
            · obtain rfl := hJ
              simp [execOp, Act.eval, go_sem]
            · obtain rfl := hJ
              rfl
          · intro i hi a w1 hJ hsz hs      -- heavy 1: op 10 slot None
            obtain rfl : 10 = i := Option.some.inj hi
            obtain ⟨h0, h1, _⟩ := hs
            have h0 : a.tmps.getD 5 undef = .pointer (some ⟨w.heap.size + 1, 0, none⟩) := h0
            have g0 : a.tmps[5]?.getD undef = .pointer (some ⟨w.heap.size + 1, 0, none⟩) := (Array.getD_eq_getD_getElem? ..).symm.trans h0
            have h1 : a.tmps.getD 31 undef = .agg #[.int .i64 T, .int .i64 Z, .slice (some ⟨bk, off + 18, none⟩) C (cap - 18)] := h1
            have g1 : a.tmps[31]?.getD undef = .agg #[.int .i64 T, .int .i64 Z, .slice (some ⟨bk, off + 18, none⟩) C (cap - 18)] := (Array.getD_eq_getD_getElem? ..).symm.trans h1
            have hcalm : ∀ (wq1 wq2 : World) (kk : Nat) (v0 : Value), kk ≠ 10 → VL [cV (.slice (some ⟨bk, off, none⟩) m cap), cV (.int .i64 T), cV (.slice (some ⟨bk, off, none⟩) m cap), cV (.int .i64 Z), cV (.slice (some ⟨bk, off, none⟩) m cap), cV (.int .i64 (C : Nat)), cV (.int .i64 (18 + (C : Int))), cV (.slice (some ⟨bk, off + 18, none⟩) C (cap - 18)), cV (.agg #[.int .i64 T, .int .i64 Z, .slice (some ⟨bk, off + 18, none⟩) C (cap - 18)]), cV (.pointer (some ⟨w.heap.size + 1, 0, none⟩)), tV] kk wq1 v0 → VL [cV (.slice (some ⟨bk, off, none⟩) m cap), cV (.int .i64 T), cV (.slice (some ⟨bk, off, none⟩) m cap), cV (.int .i64 Z), cV (.slice (some ⟨bk, off, none⟩) m cap), cV (.int .i64 (C : Nat)), cV (.int .i64 (18 + (C : Int))), cV (.slice (some ⟨bk, off + 18, none⟩) C (cap - 18)), cV (.agg #[.int .i64 T, .int .i64 Z, .slice (some ⟨bk, off + 18, none⟩) C (cap - 18)]), cV (.pointer (some ⟨w.heap.size + 1, 0, none⟩)), tV] kk wq2 v0 := Calm.all (n := 0) ⟨.inl ⟨_, rfl, rfl⟩, .inl ⟨_, rfl, rfl⟩, .inl ⟨_, rfl, rfl⟩, .inl ⟨_, rfl, rfl⟩, .inl ⟨_, rfl, rfl⟩, .inl ⟨_, rfl, rfl⟩, .inl ⟨_, rfl, rfl⟩, .inl ⟨_, rfl, rfl⟩, .inl ⟨_, rfl, rfl⟩, .inl ⟨_, rfl, rfl⟩, .inr (.inr rfl), trivial⟩
            obtain rfl := hJ
            refine hv_rec rfl rfl (x := w.heap.size + 1) (cs := #[.int .i64 0, .int .i64 0, .slice none 0 0]) (vs := #[.int .i64 T, .int .i64 Z, .slice (some ⟨bk, off + 18, none⟩) C (cap - 18)]) rfl h0 h1 (by have h := RecAt.new ((w.alloc (.cells #[.int .i64 0, .int .i64 0, .slice none 0 0] 38)).drew) #[.int .i64 0, .int .i64 0, .slice none 0 0] 38; rw [show ((w.alloc (.cells #[.int .i64 0, .int .i64 0, .slice none 0 0] 38)).drew).heap.size = w.heap.size + 1 by simp] at h; exact h) rfl (by kernel_rfl) (by kernel_rfl) (fun _ => trivial) (fun w2 r1 r2 r3 r4 => ⟨r1, ?_, ?_⟩) (fun w2 => hcalm _ _)
            · unfold RecAt
              rw [r3 _ (by omega)]
              exact HX.out.later ((Below.refl _ _).drew.alloc (by simp) _)
            · exact (HB.out.drew.alloc (by simp) _).grown r4 (by simp; omega) (fun k e => by cases e; omega)
            
        · intro f w1 hJ hv
          obtain ⟨q1, q2, q3⟩ := hJ
          have e5 : f 5 = .pointer (some ⟨w.heap.size + 1, 0, none⟩) := hv 9 _ 5 rfl rfl
          clear hv
          try simp only [Exit.then]
          simp only [putAll, List.foldl_cons, List.foldl_nil, Option.getD_some, Act.put, List.setIfInBounds_toArray, List.set_cons_succ, List.set_cons_zero]
          rw [e5]
          have HQ1 := Lib.hid q1
          have HQ2 := Lib.hid q2
          have HQ3 := Lib.hid q3
          clear q1 q2 q3 N0 N16 N4 N8
          go_wp2_with fail
          -- REG 7
          refine wp_region_ptab (L := fun ph => match ph with | 0 => [cV (.agg #[.int .i64 T, .int .i64 Z, .slice (some ⟨bk, off + 18, none⟩) C (cap - 18)]), cV (.agg #[.int .i64 T, .int .i64 Z, .slice (some ⟨bk, off + 18, none⟩) C (cap - 18)]), cV (.bool (rightE T Z C)), tV, cV (.bool (rightE T Z C))] | _ => [cV (.agg #[.int .i64 T, .int .i64 Z, .slice (some ⟨bk, off + 18, none⟩) C (cap - 18)]), cV (.agg #[.int .i64 T, .int .i64 Z, .slice (some ⟨bk, off + 18, none⟩) C (cap - 18)]), cV (.bool (rightE T Z C)), tV, cV (.bool (rightE T Z C))]) (fun ph wq => match ph with | 0 => Below w1.heap.size w1 wq | _ => RecAt wq w.heap.size #[.int .i64 T, .int .i64 Z, .slice (some ⟨bk, off + 18, none⟩) C (cap - 18)] 38 ∧ Below w.heap.size w wq) [3] [(0, 0), (0, 0), (0, 0), (0, 1), (0, 1)] [[(5, none)], [(5, none)], [(33, some 1)], [(2, none), (32, some 0)], [(34, some 2)]] 5 1 35 (by kernel_rfl) rfl rfl rfl (by kernel_rfl) (by kernel_rfl) (by decide) (by kernel_rfl) ?_ ?_ ?_ ?_ ?_
          · intro ph w3 w4 h hb
            match ph, h with
            | 0, h => exact h.trans (hb.mono h.size)
            | n + 1, h => exact ⟨h.1.later hb, h.2.trans (hb.mono h.2.size)⟩
          · exact Below.refl _ _
          · show ∀ i, i < 5 → _
            iterate 5 (refine fls ?_ ?_)
            · exact fl0
            · intro hne lo hi ph hran hp1 hp2 a w1 hJ hsz hs      -- 0: slot 32
              obtain ⟨rfl, rfl⟩ : 0 = lo ∧ 0 = hi := Prod.mk.inj (Option.some.inj hran)
              obtain rfl : ph = 0 := by omega
              obtain ⟨h0, _⟩ := hs
              have h0 : a.tmps.getD 5 undef = .pointer (some ⟨w.heap.size + 1, 0, none⟩) := h0
              obtain ⟨c0, c1, c2⟩ := (HQ1.out.later hJ).c3
              refine op_run rfl rfl (v := .agg #[.int .i64 T, .int .i64 Z, .slice (some ⟨bk, off + 18, none⟩) C (cap - 18)]) (w' := w1) ?_ rfl (Below.refl _ _)
              simp [execOp, Act.eval, h0, c0, c1, c2, go_sem]
            · intro hne lo hi ph hran hp1 hp2 a w1 hJ hsz hs      -- 1: slot 33
              obtain ⟨rfl, rfl⟩ : 0 = lo ∧ 0 = hi := Prod.mk.inj (Option.some.inj hran)
              obtain rfl : ph = 0 := by omega
              obtain ⟨h0, _⟩ := hs
              have h0 : a.tmps.getD 5 undef = .pointer (some ⟨w.heap.size + 1, 0, none⟩) := h0
              obtain ⟨c0, c1, c2⟩ := (HQ1.out.later hJ).c3
              refine op_run rfl rfl (v := .agg #[.int .i64 T, .int .i64 Z, .slice (some ⟨bk, off + 18, none⟩) C (cap - 18)]) (w' := w1) ?_ rfl (Below.refl _ _)
              simp [execOp, Act.eval, h0, c0, c1, c2, go_sem]
            · intro hne lo hi ph hran hp1 hp2 a w1 hJ hsz hs      -- 2: slot 34
              obtain ⟨rfl, rfl⟩ : 0 = lo ∧ 0 = hi := Prod.mk.inj (Option.some.inj hran)
              obtain rfl : ph = 0 := by omega
              obtain ⟨h0, _⟩ := hs
              have h0 : a.tmps.getD 33 undef = .agg #[.int .i64 T, .int .i64 Z, .slice (some ⟨bk, off + 18, none⟩) C (cap - 18)] := h0
              refine op_call rfl rfl (f := 38) (args := #[.agg #[.int .i64 T, .int .i64 Z, .slice (some ⟨bk, off + 18, none⟩) C (cap - 18)]]) (by simp [execOp, Act.eval, resolve, h0, go_sem]) ?_
              exact calls_c (frright_any T Z _ C _ w1 (by omega))
            · intro hne lo hi ph hran hp1 hp2 a w1 hJ hsz hs      -- 3: slot None
              exact absurd (by decide) hne
            · intro hne lo hi ph hran hp1 hp2 a w1 hJ hsz hs      -- 4: slot 3
              obtain ⟨rfl, rfl⟩ : 0 = lo ∧ 1 = hi := Prod.mk.inj (Option.some.inj hran)
              rcases (by omega : ph = 0 ∨ ph = 1) with rfl | rfl
              · obtain ⟨h0, _⟩ := hs
                have h0 : a.tmps.getD 34 undef = .bool (rightE T Z C) := h0
                refine op_run rfl rfl (v := .bool (rightE T Z C)) (w' := w1) ?_ rfl (Below.refl _ _)
                simp [execOp, Act.eval, h0, go_sem]
              · obtain ⟨h0, _⟩ := hs
                have h0 : a.tmps.getD 34 undef = .bool (rightE T Z C) := h0
                refine op_run rfl rfl (v := .bool (rightE T Z C)) (w' := w1) ?_ rfl (Below.refl _ _)
                simp [execOp, Act.eval, h0, go_sem]
          · show ∀ ph, ph < 1 → _
            iterate 1 (refine fls ?_ ?_)
            · exact fl0
            · intro i hi a w1 hJ hsz hs      -- heavy 0: op 3 slot None
              obtain rfl : 3 = i := Option.some.inj hi
              obtain ⟨h0, h1, _⟩ := hs
              have h0 : a.tmps.getD 2 undef = .pointer (some ⟨w.heap.size, 0, none⟩) := h0
              have g0 : a.tmps[2]?.getD undef = .pointer (some ⟨w.heap.size, 0, none⟩) := (Array.getD_eq_getD_getElem? ..).symm.trans h0
              have h1 : a.tmps.getD 32 undef = .agg #[.int .i64 T, .int .i64 Z, .slice (some ⟨bk, off + 18, none⟩) C (cap - 18)] := h1
              have g1 : a.tmps[32]?.getD undef = .agg #[.int .i64 T, .int .i64 Z, .slice (some ⟨bk, off + 18, none⟩) C (cap - 18)] := (Array.getD_eq_getD_getElem? ..).symm.trans h1
              have hcalm : ∀ (wq1 wq2 : World) (kk : Nat) (v0 : Value), kk ≠ 3 → VL [cV (.agg #[.int .i64 T, .int .i64 Z, .slice (some ⟨bk, off + 18, none⟩) C (cap - 18)]), cV (.agg #[.int .i64 T, .int .i64 Z, .slice (some ⟨bk, off + 18, none⟩) C (cap - 18)]), cV (.bool (rightE T Z C)), tV, cV (.bool (rightE T Z C))] kk wq1 v0 → VL [cV (.agg #[.int .i64 T, .int .i64 Z, .slice (some ⟨bk, off + 18, none⟩) C (cap - 18)]), cV (.agg #[.int .i64 T, .int .i64 Z, .slice (some ⟨bk, off + 18, none⟩) C (cap - 18)]), cV (.bool (rightE T Z C)), tV, cV (.bool (rightE T Z C))] kk wq2 v0 := Calm.all (n := 0) ⟨.inl ⟨_, rfl, rfl⟩, .inl ⟨_, rfl, rfl⟩, .inl ⟨_, rfl, rfl⟩, .inr (.inr rfl), .inl ⟨_, rfl, rfl⟩, trivial⟩
              refine hv_rec rfl rfl (x := w.heap.size) (vs := #[.int .i64 T, .int .i64 Z, .slice (some ⟨bk, off + 18, none⟩) C (cap - 18)]) rfl h0 h1 (HQ2.out.later hJ) rfl (by kernel_rfl) (by kernel_rfl) (fun _ => trivial) (fun w3 r1 r2 r3 r4 => ⟨r1, ?_⟩) (fun w3 => hcalm _ _)
              exact (HQ3.out.trans (hJ.mono HQ3.out.size)).grown r4 (HQ3.out.trans (hJ.mono HQ3.out.size)).size (fun k e => by cases e; exact Nat.le_refl _)
          · intro f w1 hJ hv
            obtain ⟨q1, q2⟩ := hJ
            have e3 : f 3 = .bool (rightE T Z C) := hv 4 _ 3 rfl rfl
            clear hv
            try simp only [Exit.then]
            simp only [putAll, List.foldl_cons, List.foldl_nil, Option.getD_some, Act.put, List.setIfInBounds_toArray, List.set_cons_succ, List.set_cons_zero]
            rw [e3, HBR.out.1]
            obtain ⟨rt, hrt⟩ : ∃ rt, (begunA l).isSome = rt := ⟨_, rfl⟩
            have HRT := Lib.hid hrt
            rw [hrt]
            clear hrt
            go_wp2_with fail
            refine bodyPost_ret (results_ct rfl rfl q1 Try.underlying38 rfl (by kernel_rfl)) rfl ?_
            exact ⟨_, _, _, _, _, by rw [HRT.out]; rfl, q2, HBR.out.2⟩
          -- END 7
        -- END 6
      · have HA := Lib.hid (begunA_none (m := l) (by omega))
        clear hm hr HQ
        rw [hq, show ((1162495816 : Nat) : Int) = (1162495816 : Int) by omega] at N0
        clear hq
        generalize fieldL l 16 2 = C at *
        go_enter Try.func35, Try.ntmps35
        go_wp2_with fail
        refine N0.out.mono ?_
        rintro e w1 ⟨rfl, rfl⟩
        go_wp2_with fail
        refine N16.out.mono ?_
        rintro e w1 ⟨rfl, rfl⟩
        go_wp2_with fail
        refine bodyPost_ret (results_ct rfl rfl HX.out Try.underlying38 rfl (by kernel_rfl)) rfl ?_
        exact ⟨0, 0, none, 0, 0, by rw [HA.out]; rfl, HB.out, fun t s n h => by rw [HA.out] at h; cases h⟩
    · have HA := Lib.hid (begunA_none (m := l) (by omega))
      clear hm hr
      generalize fieldL l 0 4 = Q at *
      go_enter Try.func35, Try.ntmps35
      go_wp2_with (go_at_call 37; refine N0.out.mono ?_; rintro e w1 ⟨rfl, rfl⟩)
      refine bodyPost_ret (results_ct rfl rfl HX.out Try.underlying38 rfl (by kernel_rfl)) rfl ?_
      exact ⟨0, 0, none, 0, 0, by rw [HA.out]; rfl, HB.out, fun t s n h => by rw [HA.out] at h; cases h⟩
end Go.Proofs.Ytabeleihpnnadaa
