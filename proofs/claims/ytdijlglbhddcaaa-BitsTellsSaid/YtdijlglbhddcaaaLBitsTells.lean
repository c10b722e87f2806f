/- The law BitsTells, walked. -/
import Derived.Test.YtdijlglbhddcaaaKnown
import Derived.Deep.RegionWith
import Derived.BigRegion
import Derived.Deep.DeepCutAuto
import Derived.Test.YtdijlglbhddcaaaFree
namespace Go.Proofs.Ytdijlglbhddcaaa
open Go.RowKit
set_option linter.unusedVariables false

theorem wf_i64t {n : Int} (h : (Lit.int .i64 n).wf = true) : -9223372036854775808 ≤ n ∧ n ≤ 9223372036854775807 := by
  simp [Lit.wf, IntKind.min, IntKind.max, IntKind.signed, IntKind.bits] at h; omega
theorem wf_u64t {n : Int} (h : (Lit.int .u64 n).wf = true) : ∃ m : Nat, n = m ∧ m < 18446744073709551616 := by
  simp [Lit.wf, IntKind.min, IntKind.max, IntKind.signed, IntKind.bits] at h
  exact ⟨n.toNat, by omega, by omega⟩

set_option maxRecDepth 100000 in
set_option maxHeartbeats 1600000 in
theorem tells_known (a0 : Option Addr) (m cap : Nat) (p W n k most : Int) (s : ByteArray) (w : World) (hb : 300 < m ∨ 300 < s.size) :
    Calls Try.prog 4 #[.slice a0 m cap, .int .i64 p, .int .i64 W, .int .u64 n, .int .i64 k, .int .i64 most, .string s] w fun e w' => e = .returned (.bool true) ∧ Below w.heap.size w w' := by
  rcases (show 300 < m ∨ (m ≤ 300 ∧ 300 < s.size) by omega) with h | h
  all_goals
    clear hb
    go_enter Try.func4, Try.ntmps4
    go_wp2_with fail
    refine (known_any _).mono ?_
    rintro e w1 ⟨rfl, hb⟩
    go_wp2
    go_ret
    exact ⟨rfl, hb⟩

/-- A slice that reads as these bytes. -/
def rV (l : List UInt8) : SV := ⟨fun w v => ∃ b c, v = .slice b l.length c ∧ Row w b c l, fun w w' v ⟨b, c, h, r⟩ hb => ⟨b, c, h, r.later hb⟩⟩
theorem own_rV {w w' : World} {v : Value} {l D : List UInt8} (h : Own w w' v l) (e : l = D) : (rV D).p w' v ∧ Below w.heap.size w w' := by
  subst e
  obtain ⟨b, c, hv, r⟩ := h.row
  exact ⟨⟨b, c, hv, r⟩, h.below⟩
theorem put_rV {l D : List UInt8} {n : Nat} {k : Int} (e : putA l n k = D) (a : Option Addr) (m cap : Nat) (w : World) (hr : Row w a cap l) (hm : l.length = m) (hlen : m ≤ 100000) (hn : n < 18446744073709551616) :
    Calls Try.prog 21 #[.slice a m cap, .int .u64 n, .int .i64 k] w fun e w' => ∃ v, e = .returned v ∧ (rV D).p w' v ∧ Below w.heap.size w w' :=
  (put_any a m cap l n k w hr hm hlen hn).mono fun e' w' ⟨v, h, o⟩ => ⟨v, h, own_rV o e⟩
theorem rput_rV {l D : List UInt8} {n : Nat} {k : Int} (e : putA l n k = D) (a : Option Addr) (m cap : Nat) (w : World) (hr : Row w a cap l) (hm : l.length = m) (hlen : m ≤ 100000) (hn : n < 18446744073709551616) :
    Calls Try.prog 22 #[.slice a m cap, .int .u64 n, .int .i64 k] w fun e w' => ∃ v, e = .returned v ∧ (rV D).p w' v ∧ Below w.heap.size w w' :=
  (rput_any a m cap l n k w hr hm hlen hn).mono fun e' w' ⟨v, h, o⟩ => ⟨v, h, own_rV o e⟩

theorem var_rV {l D : List UInt8} {k : Int} (e : l ++ varL k.toNat = D) (a : Option Addr) (m cap : Nat) (w : World) (hr : Row w a cap l) (hm : l.length = m) (hlen : m ≤ 100000) (hk : k ≤ 9223372036854775807) :
    Calls Try.prog 12 #[.slice a m cap, .int .i64 k] w fun e w' => ∃ v, e = .returned v ∧ (rV D).p w' v ∧ Below w.heap.size w w' :=
  (var_any a m cap l k w hr hm hlen hk).mono fun e' w' ⟨v, h, o⟩ => ⟨v, h, own_rV o e⟩
theorem rvar_rV {l D : List UInt8} {k : Int} (e : l ++ varL k.toNat = D) (a : Option Addr) (m cap : Nat) (w : World) (hr : Row w a cap l) (hm : l.length = m) (hlen : m ≤ 100000) (hk : k ≤ 9223372036854775807) :
    Calls Try.prog 13 #[.slice a m cap, .int .i64 k] w fun e w' => ∃ v, e = .returned v ∧ (rV D).p w' v ∧ Below w.heap.size w w' :=
  (rvar_any a m cap l k w hr hm hlen hk).mono fun e' w' ⟨v, h, o⟩ => ⟨v, h, own_rV o e⟩
theorem text_rV {l D : List UInt8} {s : ByteArray} (e : l ++ textL s.data.toList = D) (a : Option Addr) (m cap : Nat) (w : World) (hr : Row w a cap l) (hm : l.length = m) (hlen : m ≤ 100000) (hs : s.size ≤ 1000000) :
    Calls Try.prog 27 #[.slice a m cap, .string s] w fun e w' => ∃ v, e = .returned v ∧ (rV D).p w' v ∧ Below w.heap.size w w' :=
  (text_any a m cap l s w hr hm hlen hs).mono fun e' w' ⟨v, h, o⟩ => ⟨v, h, own_rV o e⟩
theorem rtext_rV {l D : List UInt8} {s : ByteArray} (e : l ++ textL s.data.toList = D) (a : Option Addr) (m cap : Nat) (w : World) (hr : Row w a cap l) (hm : l.length = m) (hlen : m ≤ 100000) (hs : s.size ≤ 1000000) :
    Calls Try.prog 28 #[.slice a m cap, .string s] w fun e w' => ∃ v, e = .returned v ∧ (rV D).p w' v ∧ Below w.heap.size w w' :=
  (rtext_any a m cap l s w hr hm hlen hs).mono fun e' w' ⟨v, h, o⟩ => ⟨v, h, own_rV o e⟩

set_option maxRecDepth 100000 in
set_option maxHeartbeats 3200000 in
theorem tells_walk (a0 : Option Addr) (m cap : Nat) (l : List UInt8) (p W : Int) (n : Nat) (k most : Int) (s : ByteArray) (w : World) (hr : Row w a0 cap l) (hl : l.length = m) (hm : m ≤ 300) (hs : s.size ≤ 300)
    (hp0 : -9223372036854775808 ≤ p) (hp1 : p ≤ 9223372036854775807) (hW0 : -9223372036854775808 ≤ W) (hW1 : W ≤ 9223372036854775807) (hn : n < 18446744073709551616) (hk0 : -9223372036854775808 ≤ k) (hk1 : k ≤ 9223372036854775807) :
    Calls Try.prog 4 #[.slice a0 m cap, .int .i64 p, .int .i64 W, .int .u64 n, .int .i64 k, .int .i64 most, .string s] w fun e w' => e = .returned (.bool true) ∧ Below w.heap.size w w' := by
  have HL := Lib.hid hl
  clear hl
  obtain ⟨P, hP⟩ : ∃ P, (⟨(putA l n W).toArray⟩ : ByteArray) = P := ⟨_, rfl⟩
  have HP := Lib.hid hP
  clear hP
  go_enter Try.func4, Try.ntmps4
  go_wp2_with fail
  refine (get_any a0 m cap l p W w hr HL.out (by omega) hp0 hp1 hW0 hW1).mono ?_
  rintro e w1 ⟨rfl, rfl⟩
  go_wp2_with fail
  refine (rget_any a0 m cap l p W w hr HL.out (by omega) hp0 hp1 hW0 hW1).mono ?_
  rintro e w1 ⟨rfl, rfl⟩
  generalize getA l p W = G
  obtain ⟨g, ok⟩ := G
  simp only []
  obtain ⟨D, hD⟩ : ∃ D, putA l n W = D := ⟨_, rfl⟩
  have HD := Lib.hid hD
  rw [hD] at HP
  clear hD
  go_upto_region 5 with fail
  go_cut [74] (fun c wx => c = .bool false ∧ Below w.heap.size w wx)
  case first =>
    -- REG 5
    refine wp_region_tab (L := [cV (.int .u64 g), cV (.int .u64 g), cV (.bool false), cV (.bool false), cV (.bool ok), cV (.bool ok), cV (.bool false), cV (.bool false), cV (.bool false), cV (.slice a0 m cap), cV (.int .u64 n), cV (.int .i64 W), rV D, cV (.string P), cV (.slice a0 m cap), cV (.int .u64 n), cV (.int .i64 W), rV D, cV (.string P), cV (.bool false), cV (.bool false)]) [[(15, none)], [(17, none)], [(54, some 0), (55, some 1)], [(56, some 2)], [(16, none), (57, some 3)], [(18, none), (57, some 3)], [(58, some 4), (59, some 5), (57, some 3)], [(57, some 3), (60, some 6)], [(61, some 7)], [(0, none), (62, some 8)], [(3, none), (62, some 8)], [(2, none), (62, some 8)], [(63, some 9), (64, some 10), (65, some 11), (62, some 8)], [(66, some 12), (62, some 8)], [(0, none), (62, some 8)], [(3, none), (62, some 8)], [(2, none), (62, some 8)], [(68, some 14), (69, some 15), (70, some 16), (62, some 8)], [(71, some 17), (62, some 8)], [(67, some 13), (72, some 18), (62, some 8)], [(62, some 8), (73, some 19)]] 21 195 (by kernel_rfl) rfl rfl (by kernel_rfl) (by kernel_rfl) ?_ ?_
    · show ∀ i, i < 21 → _
      iterate 21 (refine fls ?_ ?_)
      · exact fl0
      · intro a w1 hR hsz hs      -- 0: slot 54
        obtain ⟨h0, _⟩ := hs
        have h0 : a.tmps.getD 15 undef = .int .u64 g := h0
        refine op_run rfl rfl (v := .int .u64 g) (w' := w1) ?_ rfl (Below.refl _ _)
        simp [execOp, Act.eval, h0, go_sem]
      · intro a w1 hR hsz hs      -- 1: slot 55
        obtain ⟨h0, _⟩ := hs
        have h0 : a.tmps.getD 17 undef = .int .u64 g := h0
        refine op_run rfl rfl (v := .int .u64 g) (w' := w1) ?_ rfl (Below.refl _ _)
        simp [execOp, Act.eval, h0, go_sem]
      · intro a w1 hR hsz hs      -- 2: slot 56
        obtain ⟨h0, h1, _⟩ := hs
        have h0 : a.tmps.getD 54 undef = .int .u64 g := h0
        have h1 : a.tmps.getD 55 undef = .int .u64 g := h1
        refine op_run rfl rfl (v := .bool false) (w' := w1) ?_ rfl (Below.refl _ _)
        simp [execOp, Act.eval, h0, h1, go_sem]
      · intro a w1 hR hsz hs      -- 3: slot 57
        obtain ⟨h0, _⟩ := hs
        have h0 : a.tmps.getD 56 undef = .bool false := h0
        refine op_run rfl rfl (v := .bool false) (w' := w1) ?_ rfl (Below.refl _ _)
        simp [execOp, Act.eval, h0, go_sem]
      · intro a w1 hR hsz hs      -- 4: slot 58
        obtain ⟨h0, h1, _⟩ := hs
        have h0 : a.tmps.getD 16 undef = .bool ok := h0
        have h1 : a.tmps.getD 57 undef = .bool false := h1
        refine opg_run rfl rfl rfl (by rw [hsz]; decide) h1 (v := .bool ok) (w' := w1) ?_ rfl (Below.refl _ _)
        simp [execOp, Act.eval, h0, go_sem]
      · intro a w1 hR hsz hs      -- 5: slot 59
        obtain ⟨h0, h1, _⟩ := hs
        have h0 : a.tmps.getD 18 undef = .bool ok := h0
        have h1 : a.tmps.getD 57 undef = .bool false := h1
        refine opg_run rfl rfl rfl (by rw [hsz]; decide) h1 (v := .bool ok) (w' := w1) ?_ rfl (Below.refl _ _)
        simp [execOp, Act.eval, h0, go_sem]
      · intro a w1 hR hsz hs      -- 6: slot 60
        obtain ⟨h0, h1, h2, _⟩ := hs
        have h0 : a.tmps.getD 58 undef = .bool ok := h0
        have h1 : a.tmps.getD 59 undef = .bool ok := h1
        have h2 : a.tmps.getD 57 undef = .bool false := h2
        refine opg_run rfl rfl rfl (by rw [hsz]; decide) h2 (v := .bool false) (w' := w1) ?_ rfl (Below.refl _ _)
        simp [execOp, Act.eval, h0, h1, go_sem]
      · intro a w1 hR hsz hs      -- 7: slot 61
        obtain ⟨h0, h1, _⟩ := hs
        have h0 : a.tmps.getD 57 undef = .bool false := h0
        have h1 : a.tmps.getD 60 undef = .bool false := h1
        refine op_run rfl rfl (v := .bool false) (w' := w1) ?_ rfl (Below.refl _ _)
        simp [execOp, Act.eval, h0, h1, go_sem]
      · intro a w1 hR hsz hs      -- 8: slot 62
        obtain ⟨h0, _⟩ := hs
        have h0 : a.tmps.getD 61 undef = .bool false := h0
        refine op_run rfl rfl (v := .bool false) (w' := w1) ?_ rfl (Below.refl _ _)
        simp [execOp, Act.eval, h0, go_sem]
      · intro a w1 hR hsz hs      -- 9: slot 63
        obtain ⟨h0, h1, _⟩ := hs
        have h0 : a.tmps.getD 0 undef = .slice a0 m cap := h0
        have h1 : a.tmps.getD 62 undef = .bool false := h1
        refine opg_run rfl rfl rfl (by rw [hsz]; decide) h1 (v := .slice a0 m cap) (w' := w1) ?_ rfl (Below.refl _ _)
        simp [execOp, Act.eval, h0, go_sem]
      · intro a w1 hR hsz hs      -- 10: slot 64
        obtain ⟨h0, h1, _⟩ := hs
        have h0 : a.tmps.getD 3 undef = .int .u64 n := h0
        have h1 : a.tmps.getD 62 undef = .bool false := h1
        refine opg_run rfl rfl rfl (by rw [hsz]; decide) h1 (v := .int .u64 n) (w' := w1) ?_ rfl (Below.refl _ _)
        simp [execOp, Act.eval, h0, go_sem]
      · intro a w1 hR hsz hs      -- 11: slot 65
        obtain ⟨h0, h1, _⟩ := hs
        have h0 : a.tmps.getD 2 undef = .int .i64 W := h0
        have h1 : a.tmps.getD 62 undef = .bool false := h1
        refine opg_run rfl rfl rfl (by rw [hsz]; decide) h1 (v := .int .i64 W) (w' := w1) ?_ rfl (Below.refl _ _)
        simp [execOp, Act.eval, h0, go_sem]
      · intro a w1 hR hsz hs      -- 12: slot 66
        obtain ⟨h0, h1, h2, h3, _⟩ := hs
        have h0 : a.tmps.getD 63 undef = .slice a0 m cap := h0
        have h1 : a.tmps.getD 64 undef = .int .u64 n := h1
        have h2 : a.tmps.getD 65 undef = .int .i64 W := h2
        have h3 : a.tmps.getD 62 undef = .bool false := h3
        refine opg_call rfl rfl rfl (by rw [hsz]; decide) h3 (f := 21) (args := #[.slice a0 m cap, .int .u64 n, .int .i64 W]) (by simp [execOp, Act.eval, resolve, h0, h1, h2, go_sem]) ?_
        exact put_rV HD.out a0 m cap w1 (hr.later hR) HL.out (by omega) hn
      · intro a w1 hR hsz hs      -- 13: slot 67
        obtain ⟨h0, h1, _⟩ := hs
        obtain ⟨b0, c0, h0, r0⟩ : ∃ b c, a.tmps.getD 66 undef = .slice b D.length c ∧ Row w1 b c D := h0
        have h1 : a.tmps.getD 62 undef = .bool false := h1
        have hcv := conv_row r0; rw [HP.out] at hcv
        refine opg_run rfl rfl rfl (by rw [hsz]; decide) h1 (v := .string P) (w' := w1) ?_ rfl (Below.refl _ _)
        simp [execOp, Act.eval, h0, hcv, go_sem]
      · intro a w1 hR hsz hs      -- 14: slot 68
        obtain ⟨h0, h1, _⟩ := hs
        have h0 : a.tmps.getD 0 undef = .slice a0 m cap := h0
        have h1 : a.tmps.getD 62 undef = .bool false := h1
        refine opg_run rfl rfl rfl (by rw [hsz]; decide) h1 (v := .slice a0 m cap) (w' := w1) ?_ rfl (Below.refl _ _)
        simp [execOp, Act.eval, h0, go_sem]
      · intro a w1 hR hsz hs      -- 15: slot 69
        obtain ⟨h0, h1, _⟩ := hs
        have h0 : a.tmps.getD 3 undef = .int .u64 n := h0
        have h1 : a.tmps.getD 62 undef = .bool false := h1
        refine opg_run rfl rfl rfl (by rw [hsz]; decide) h1 (v := .int .u64 n) (w' := w1) ?_ rfl (Below.refl _ _)
        simp [execOp, Act.eval, h0, go_sem]
      · intro a w1 hR hsz hs      -- 16: slot 70
        obtain ⟨h0, h1, _⟩ := hs
        have h0 : a.tmps.getD 2 undef = .int .i64 W := h0
        have h1 : a.tmps.getD 62 undef = .bool false := h1
        refine opg_run rfl rfl rfl (by rw [hsz]; decide) h1 (v := .int .i64 W) (w' := w1) ?_ rfl (Below.refl _ _)
        simp [execOp, Act.eval, h0, go_sem]
      · intro a w1 hR hsz hs      -- 17: slot 71
        obtain ⟨h0, h1, h2, h3, _⟩ := hs
        have h0 : a.tmps.getD 68 undef = .slice a0 m cap := h0
        have h1 : a.tmps.getD 69 undef = .int .u64 n := h1
        have h2 : a.tmps.getD 70 undef = .int .i64 W := h2
        have h3 : a.tmps.getD 62 undef = .bool false := h3
        refine opg_call rfl rfl rfl (by rw [hsz]; decide) h3 (f := 22) (args := #[.slice a0 m cap, .int .u64 n, .int .i64 W]) (by simp [execOp, Act.eval, resolve, h0, h1, h2, go_sem]) ?_
        exact rput_rV HD.out a0 m cap w1 (hr.later hR) HL.out (by omega) hn
      · intro a w1 hR hsz hs      -- 18: slot 72
        obtain ⟨h0, h1, _⟩ := hs
        obtain ⟨b0, c0, h0, r0⟩ : ∃ b c, a.tmps.getD 71 undef = .slice b D.length c ∧ Row w1 b c D := h0
        have h1 : a.tmps.getD 62 undef = .bool false := h1
        have hcv := conv_row r0; rw [HP.out] at hcv
        refine opg_run rfl rfl rfl (by rw [hsz]; decide) h1 (v := .string P) (w' := w1) ?_ rfl (Below.refl _ _)
        simp [execOp, Act.eval, h0, hcv, go_sem]
      · intro a w1 hR hsz hs      -- 19: slot 73
        obtain ⟨h0, h1, h2, _⟩ := hs
        have h0 : a.tmps.getD 67 undef = .string P := h0
        have h1 : a.tmps.getD 72 undef = .string P := h1
        have h2 : a.tmps.getD 62 undef = .bool false := h2
        refine opg_run rfl rfl rfl (by rw [hsz]; decide) h2 (v := .bool false) (w' := w1) ?_ rfl (Below.refl _ _)
        simp [execOp, Act.eval, h0, h1, go_sem]
      · intro a w1 hR hsz hs      -- 20: slot 74
        obtain ⟨h0, h1, _⟩ := hs
        have h0 : a.tmps.getD 62 undef = .bool false := h0
        have h1 : a.tmps.getD 73 undef = .bool false := h1
        refine op_run rfl rfl (v := .bool false) (w' := w1) ?_ rfl (Below.refl _ _)
        simp [execOp, Act.eval, h0, h1, go_sem]
    · intro f w1 hR hv
      have e20 : f 74 = .bool false := hv 20 _ 74 rfl rfl
      simp only [Exit.then]
      simp only [putAll, List.foldl_cons, List.foldl_nil, Option.getD_some, Act.put, List.setIfInBounds_toArray, List.set_cons_succ, List.set_cons_zero]
      go_wp2_with fail
      go_meet
      exact ⟨e20, hR⟩
    -- END 5
  case rest =>
    obtain ⟨rfl, hb⟩ := hcut
    have hr' := hr.later hb
    clear hr HD HP
    obtain ⟨y1, y2, y3, hG⟩ : ∃ y1 y2 y3, getVA l p = (y1, y2, y3) := ⟨_, _, _, rfl⟩
    have HG := Lib.hid hG
    obtain ⟨t1, t2, t3, hT⟩ : ∃ t1 t2 t3, GotT (gtA l p most) = .tuple #[.string t1, .int .i64 t2, .bool t3] := by
      cases gtA l p most with
      | none => exact ⟨_, _, _, rfl⟩
      | some x => exact ⟨_, _, _, rfl⟩
    have HT := Lib.hid hT
    clear hG hT
    obtain ⟨D1, h1⟩ : ∃ D, l ++ varL k.toNat = D := ⟨_, rfl⟩
    obtain ⟨D2, h2⟩ : ∃ D, l ++ textL s.data.toList = D := ⟨_, rfl⟩
    obtain ⟨P1, h3⟩ : ∃ P, (⟨D1.toArray⟩ : ByteArray) = P := ⟨_, rfl⟩
    obtain ⟨P2, h4⟩ : ∃ P, (⟨D2.toArray⟩ : ByteArray) = P := ⟨_, rfl⟩
    have H1 := Lib.hid h1
    have H2 := Lib.hid h2
    have HP1 := Lib.hid h3
    have HP2 := Lib.hid h4
    clear h1 h2 h3 h4
    go_wp2_with fail
    refine (getvar_any a0 m cap l p wc hr' HL.out (by omega) hp0 hp1).mono ?_
    rintro e w1 ⟨rfl, rfl⟩
    rw [HG.out]
    simp only [Got3]
    go_wp2_with fail
    refine (rgetvar_any a0 m cap l p wc hr' HL.out (by omega) hp0 hp1).mono ?_
    rintro e w1 ⟨rfl, rfl⟩
    rw [HG.out]
    simp only [Got3]
    go_wp2_with fail
    refine (gettext_any a0 m cap l p most wc hr' HL.out (by omega) hp0 hp1).mono ?_
    rintro e w1 ⟨rfl, rfl⟩
    rw [HT.out]
    go_wp2_with fail
    refine (rgettext_any a0 m cap l p most wc hr' HL.out (by omega) hp0 hp1).mono ?_
    rintro e w1 ⟨rfl, rfl⟩
    rw [HT.out]
    go_wp2_with fail
    -- REG 13
    refine wp_region_tab (L := [cV (.slice a0 m cap), cV (.int .i64 k), rV D1, cV (.string P1), cV (.slice a0 m cap), cV (.int .i64 k), rV D1, cV (.string P1), cV (.bool true), cV (.bool true), cV (.slice a0 m cap), cV (.string s), rV D2, cV (.string P2), cV (.slice a0 m cap), cV (.string s), rV D2, cV (.string P2), cV (.bool true), cV (.bool true), cV (.bool true), cV (.int .i64 k), cV (.int .u64 (maskN k : Nat)), cV (.int .i64 k), cV (.int .u64 (maskN k : Nat)), cV (.bool true), cV (.bool true), cV (.bool true), cV (.int .u64 n), cV (.int .i64 p), cV (.int .i64 W), cV (.int .u64 (cutN n p W : Nat)), cV (.int .u64 n), cV (.int .i64 p), cV (.int .i64 W), cV (.int .u64 (cutN n p W : Nat)), cV (.bool true), cV (.bool true), cV (.bool true), cV (.int .i64 k), cV (.int .i64 (logI k)), cV (.int .i64 k), cV (.int .i64 (logI k)), cV (.bool true), cV (.bool true), cV (.bool true), cV (.int .i64 k), cV (.int .u64 (zigN k : Nat)), cV (.int .i64 k), cV (.int .u64 (zigN k : Nat)), cV (.bool true), cV (.bool true), cV (.bool true), cV (.int .u64 n), cV (.int .i64 (zagI n)), cV (.int .u64 n), cV (.int .i64 (zagI n)), cV (.bool true), cV (.bool true), cV (.bool true), cV (.bool true), cV (.bool true), cV (.bool true)]) [[(0, none)], [(4, none)], [(133, some 0), (134, some 1)], [(135, some 2)], [(0, none)], [(4, none)], [(137, some 4), (138, some 5)], [(139, some 6)], [(136, some 3), (140, some 7)], [(141, some 8)], [(0, none), (142, some 9)], [(6, none), (142, some 9)], [(143, some 10), (144, some 11), (142, some 9)], [(145, some 12), (142, some 9)], [(0, none), (142, some 9)], [(6, none), (142, some 9)], [(147, some 14), (148, some 15), (142, some 9)], [(149, some 16), (142, some 9)], [(146, some 13), (150, some 17), (142, some 9)], [(142, some 9), (151, some 18)], [(152, some 19)], [(4, none), (153, some 20)], [(154, some 21), (153, some 20)], [(4, none), (153, some 20)], [(156, some 23), (153, some 20)], [(155, some 22), (157, some 24), (153, some 20)], [(153, some 20), (158, some 25)], [(159, some 26)], [(3, none), (160, some 27)], [(1, none), (160, some 27)], [(2, none), (160, some 27)], [(161, some 28), (162, some 29), (163, some 30), (160, some 27)], [(3, none), (160, some 27)], [(1, none), (160, some 27)], [(2, none), (160, some 27)], [(165, some 32), (166, some 33), (167, some 34), (160, some 27)], [(164, some 31), (168, some 35), (160, some 27)], [(160, some 27), (169, some 36)], [(170, some 37)], [(4, none), (171, some 38)], [(172, some 39), (171, some 38)], [(4, none), (171, some 38)], [(174, some 41), (171, some 38)], [(173, some 40), (175, some 42), (171, some 38)], [(171, some 38), (176, some 43)], [(177, some 44)], [(4, none), (178, some 45)], [(179, some 46), (178, some 45)], [(4, none), (178, some 45)], [(181, some 48), (178, some 45)], [(180, some 47), (182, some 49), (178, some 45)], [(178, some 45), (183, some 50)], [(184, some 51)], [(3, none), (185, some 52)], [(186, some 53), (185, some 52)], [(3, none), (185, some 52)], [(188, some 55), (185, some 52)], [(187, some 54), (189, some 56), (185, some 52)], [(185, some 52), (190, some 57)], [(191, some 58)], [(192, some 59)], [(192, some 59), (193, some 60)], [(194, some 61)]] 63 195 (by kernel_rfl) rfl rfl (by kernel_rfl) (by kernel_rfl) ?_ ?_
    · show ∀ i, i < 63 → _
      iterate 63 (refine fls ?_ ?_)
      · exact fl0
      · intro a w1 hR hsz hs      -- 0: slot 133
        obtain ⟨h0, _⟩ := hs
        have h0 : a.tmps.getD 0 undef = .slice a0 m cap := h0
        refine op_run rfl rfl (v := .slice a0 m cap) (w' := w1) ?_ rfl (Below.refl _ _)
        simp [execOp, Act.eval, h0, go_sem]
      · intro a w1 hR hsz hs      -- 1: slot 134
        obtain ⟨h0, _⟩ := hs
        have h0 : a.tmps.getD 4 undef = .int .i64 k := h0
        refine op_run rfl rfl (v := .int .i64 k) (w' := w1) ?_ rfl (Below.refl _ _)
        simp [execOp, Act.eval, h0, go_sem]
      · intro a w1 hR hsz hs      -- 2: slot 135
        obtain ⟨h0, h1, _⟩ := hs
        have h0 : a.tmps.getD 133 undef = .slice a0 m cap := h0
        have h1 : a.tmps.getD 134 undef = .int .i64 k := h1
        refine op_call rfl rfl (f := 12) (args := #[.slice a0 m cap, .int .i64 k]) (by simp [execOp, Act.eval, resolve, h0, h1, go_sem]) ?_
        exact var_rV H1.out a0 m cap w1 (hr'.later hR) HL.out (by omega) hk1
      · intro a w1 hR hsz hs      -- 3: slot 136
        obtain ⟨h0, _⟩ := hs
        obtain ⟨b0, c0, h0, r0⟩ : ∃ b c, a.tmps.getD 135 undef = .slice b D1.length c ∧ Row w1 b c D1 := h0
        have hcv := conv_row r0; rw [HP1.out] at hcv
        refine op_run rfl rfl (v := .string P1) (w' := w1) ?_ rfl (Below.refl _ _)
        simp [execOp, Act.eval, h0, hcv, go_sem]
      · intro a w1 hR hsz hs      -- 4: slot 137
        obtain ⟨h0, _⟩ := hs
        have h0 : a.tmps.getD 0 undef = .slice a0 m cap := h0
        refine op_run rfl rfl (v := .slice a0 m cap) (w' := w1) ?_ rfl (Below.refl _ _)
        simp [execOp, Act.eval, h0, go_sem]
      · intro a w1 hR hsz hs      -- 5: slot 138
        obtain ⟨h0, _⟩ := hs
        have h0 : a.tmps.getD 4 undef = .int .i64 k := h0
        refine op_run rfl rfl (v := .int .i64 k) (w' := w1) ?_ rfl (Below.refl _ _)
        simp [execOp, Act.eval, h0, go_sem]
      · intro a w1 hR hsz hs      -- 6: slot 139
        obtain ⟨h0, h1, _⟩ := hs
        have h0 : a.tmps.getD 137 undef = .slice a0 m cap := h0
        have h1 : a.tmps.getD 138 undef = .int .i64 k := h1
        refine op_call rfl rfl (f := 13) (args := #[.slice a0 m cap, .int .i64 k]) (by simp [execOp, Act.eval, resolve, h0, h1, go_sem]) ?_
        exact rvar_rV H1.out a0 m cap w1 (hr'.later hR) HL.out (by omega) hk1
      · intro a w1 hR hsz hs      -- 7: slot 140
        obtain ⟨h0, _⟩ := hs
        obtain ⟨b0, c0, h0, r0⟩ : ∃ b c, a.tmps.getD 139 undef = .slice b D1.length c ∧ Row w1 b c D1 := h0
        have hcv := conv_row r0; rw [HP1.out] at hcv
        refine op_run rfl rfl (v := .string P1) (w' := w1) ?_ rfl (Below.refl _ _)
        simp [execOp, Act.eval, h0, hcv, go_sem]
      · intro a w1 hR hsz hs      -- 8: slot 141
        obtain ⟨h0, h1, _⟩ := hs
        have h0 : a.tmps.getD 136 undef = .string P1 := h0
        have h1 : a.tmps.getD 140 undef = .string P1 := h1
        refine op_run rfl rfl (v := .bool true) (w' := w1) ?_ rfl (Below.refl _ _)
        simp [execOp, Act.eval, h0, h1, go_sem]
      · intro a w1 hR hsz hs      -- 9: slot 142
        obtain ⟨h0, _⟩ := hs
        have h0 : a.tmps.getD 141 undef = .bool true := h0
        refine op_run rfl rfl (v := .bool true) (w' := w1) ?_ rfl (Below.refl _ _)
        simp [execOp, Act.eval, h0, go_sem]
      · intro a w1 hR hsz hs      -- 10: slot 143
        obtain ⟨h0, h1, _⟩ := hs
        have h0 : a.tmps.getD 0 undef = .slice a0 m cap := h0
        have h1 : a.tmps.getD 142 undef = .bool true := h1
        refine opg_run rfl rfl rfl (by rw [hsz]; decide) h1 (v := .slice a0 m cap) (w' := w1) ?_ rfl (Below.refl _ _)
        simp [execOp, Act.eval, h0, go_sem]
      · intro a w1 hR hsz hs      -- 11: slot 144
        obtain ⟨h0, h1, _⟩ := hs
        have h0 : a.tmps.getD 6 undef = .string s := h0
        have h1 : a.tmps.getD 142 undef = .bool true := h1
        refine opg_run rfl rfl rfl (by rw [hsz]; decide) h1 (v := .string s) (w' := w1) ?_ rfl (Below.refl _ _)
        simp [execOp, Act.eval, h0, go_sem]
      · intro a w1 hR hsz hs      -- 12: slot 145
        obtain ⟨h0, h1, h2, _⟩ := hs
        have h0 : a.tmps.getD 143 undef = .slice a0 m cap := h0
        have h1 : a.tmps.getD 144 undef = .string s := h1
        have h2 : a.tmps.getD 142 undef = .bool true := h2
        refine opg_call rfl rfl rfl (by rw [hsz]; decide) h2 (f := 27) (args := #[.slice a0 m cap, .string s]) (by simp [execOp, Act.eval, resolve, h0, h1, go_sem]) ?_
        exact text_rV H2.out a0 m cap w1 (hr'.later hR) HL.out (by omega) (by omega)
      · intro a w1 hR hsz hs      -- 13: slot 146
        obtain ⟨h0, h1, _⟩ := hs
        obtain ⟨b0, c0, h0, r0⟩ : ∃ b c, a.tmps.getD 145 undef = .slice b D2.length c ∧ Row w1 b c D2 := h0
        have h1 : a.tmps.getD 142 undef = .bool true := h1
        have hcv := conv_row r0; rw [HP2.out] at hcv
        refine opg_run rfl rfl rfl (by rw [hsz]; decide) h1 (v := .string P2) (w' := w1) ?_ rfl (Below.refl _ _)
        simp [execOp, Act.eval, h0, hcv, go_sem]
      · intro a w1 hR hsz hs      -- 14: slot 147
        obtain ⟨h0, h1, _⟩ := hs
        have h0 : a.tmps.getD 0 undef = .slice a0 m cap := h0
        have h1 : a.tmps.getD 142 undef = .bool true := h1
        refine opg_run rfl rfl rfl (by rw [hsz]; decide) h1 (v := .slice a0 m cap) (w' := w1) ?_ rfl (Below.refl _ _)
        simp [execOp, Act.eval, h0, go_sem]
      · intro a w1 hR hsz hs      -- 15: slot 148
        obtain ⟨h0, h1, _⟩ := hs
        have h0 : a.tmps.getD 6 undef = .string s := h0
        have h1 : a.tmps.getD 142 undef = .bool true := h1
        refine opg_run rfl rfl rfl (by rw [hsz]; decide) h1 (v := .string s) (w' := w1) ?_ rfl (Below.refl _ _)
        simp [execOp, Act.eval, h0, go_sem]
      · intro a w1 hR hsz hs      -- 16: slot 149
        obtain ⟨h0, h1, h2, _⟩ := hs
        have h0 : a.tmps.getD 147 undef = .slice a0 m cap := h0
        have h1 : a.tmps.getD 148 undef = .string s := h1
        have h2 : a.tmps.getD 142 undef = .bool true := h2
        refine opg_call rfl rfl rfl (by rw [hsz]; decide) h2 (f := 28) (args := #[.slice a0 m cap, .string s]) (by simp [execOp, Act.eval, resolve, h0, h1, go_sem]) ?_
        exact rtext_rV H2.out a0 m cap w1 (hr'.later hR) HL.out (by omega) (by omega)
      · intro a w1 hR hsz hs      -- 17: slot 150
        obtain ⟨h0, h1, _⟩ := hs
        obtain ⟨b0, c0, h0, r0⟩ : ∃ b c, a.tmps.getD 149 undef = .slice b D2.length c ∧ Row w1 b c D2 := h0
        have h1 : a.tmps.getD 142 undef = .bool true := h1
        have hcv := conv_row r0; rw [HP2.out] at hcv
        refine opg_run rfl rfl rfl (by rw [hsz]; decide) h1 (v := .string P2) (w' := w1) ?_ rfl (Below.refl _ _)
        simp [execOp, Act.eval, h0, hcv, go_sem]
      · intro a w1 hR hsz hs      -- 18: slot 151
        obtain ⟨h0, h1, h2, _⟩ := hs
        have h0 : a.tmps.getD 146 undef = .string P2 := h0
        have h1 : a.tmps.getD 150 undef = .string P2 := h1
        have h2 : a.tmps.getD 142 undef = .bool true := h2
        refine opg_run rfl rfl rfl (by rw [hsz]; decide) h2 (v := .bool true) (w' := w1) ?_ rfl (Below.refl _ _)
        simp [execOp, Act.eval, h0, h1, go_sem]
      · intro a w1 hR hsz hs      -- 19: slot 152
        obtain ⟨h0, h1, _⟩ := hs
        have h0 : a.tmps.getD 142 undef = .bool true := h0
        have h1 : a.tmps.getD 151 undef = .bool true := h1
        refine op_run rfl rfl (v := .bool true) (w' := w1) ?_ rfl (Below.refl _ _)
        simp [execOp, Act.eval, h0, h1, go_sem]
      · intro a w1 hR hsz hs      -- 20: slot 153
        obtain ⟨h0, _⟩ := hs
        have h0 : a.tmps.getD 152 undef = .bool true := h0
        refine op_run rfl rfl (v := .bool true) (w' := w1) ?_ rfl (Below.refl _ _)
        simp [execOp, Act.eval, h0, go_sem]
      · intro a w1 hR hsz hs      -- 21: slot 154
        obtain ⟨h0, h1, _⟩ := hs
        have h0 : a.tmps.getD 4 undef = .int .i64 k := h0
        have h1 : a.tmps.getD 153 undef = .bool true := h1
        refine opg_run rfl rfl rfl (by rw [hsz]; decide) h1 (v := .int .i64 k) (w' := w1) ?_ rfl (Below.refl _ _)
        simp [execOp, Act.eval, h0, go_sem]
      · intro a w1 hR hsz hs      -- 22: slot 155
        obtain ⟨h0, h1, _⟩ := hs
        have h0 : a.tmps.getD 154 undef = .int .i64 k := h0
        have h1 : a.tmps.getD 153 undef = .bool true := h1
        refine opg_call rfl rfl rfl (by rw [hsz]; decide) h1 (f := 10) (args := #[.int .i64 k]) (by simp [execOp, Act.eval, resolve, h0, go_sem]) ?_
        exact calls_eq (mask_any k w1)
      · intro a w1 hR hsz hs      -- 23: slot 156
        obtain ⟨h0, h1, _⟩ := hs
        have h0 : a.tmps.getD 4 undef = .int .i64 k := h0
        have h1 : a.tmps.getD 153 undef = .bool true := h1
        refine opg_run rfl rfl rfl (by rw [hsz]; decide) h1 (v := .int .i64 k) (w' := w1) ?_ rfl (Below.refl _ _)
        simp [execOp, Act.eval, h0, go_sem]
      · intro a w1 hR hsz hs      -- 24: slot 157
        obtain ⟨h0, h1, _⟩ := hs
        have h0 : a.tmps.getD 156 undef = .int .i64 k := h0
        have h1 : a.tmps.getD 153 undef = .bool true := h1
        refine opg_call rfl rfl rfl (by rw [hsz]; decide) h1 (f := 11) (args := #[.int .i64 k]) (by simp [execOp, Act.eval, resolve, h0, go_sem]) ?_
        exact calls_eq (rmask_any k w1)
      · intro a w1 hR hsz hs      -- 25: slot 158
        obtain ⟨h0, h1, h2, _⟩ := hs
        have h0 : a.tmps.getD 155 undef = .int .u64 (maskN k : Nat) := h0
        have h1 : a.tmps.getD 157 undef = .int .u64 (maskN k : Nat) := h1
        have h2 : a.tmps.getD 153 undef = .bool true := h2
        refine opg_run rfl rfl rfl (by rw [hsz]; decide) h2 (v := .bool true) (w' := w1) ?_ rfl (Below.refl _ _)
        simp [execOp, Act.eval, h0, h1, go_sem]
      · intro a w1 hR hsz hs      -- 26: slot 159
        obtain ⟨h0, h1, _⟩ := hs
        have h0 : a.tmps.getD 153 undef = .bool true := h0
        have h1 : a.tmps.getD 158 undef = .bool true := h1
        refine op_run rfl rfl (v := .bool true) (w' := w1) ?_ rfl (Below.refl _ _)
        simp [execOp, Act.eval, h0, h1, go_sem]
      · intro a w1 hR hsz hs      -- 27: slot 160
        obtain ⟨h0, _⟩ := hs
        have h0 : a.tmps.getD 159 undef = .bool true := h0
        refine op_run rfl rfl (v := .bool true) (w' := w1) ?_ rfl (Below.refl _ _)
        simp [execOp, Act.eval, h0, go_sem]
      · intro a w1 hR hsz hs      -- 28: slot 161
        obtain ⟨h0, h1, _⟩ := hs
        have h0 : a.tmps.getD 3 undef = .int .u64 n := h0
        have h1 : a.tmps.getD 160 undef = .bool true := h1
        refine opg_run rfl rfl rfl (by rw [hsz]; decide) h1 (v := .int .u64 n) (w' := w1) ?_ rfl (Below.refl _ _)
        simp [execOp, Act.eval, h0, go_sem]
      · intro a w1 hR hsz hs      -- 29: slot 162
        obtain ⟨h0, h1, _⟩ := hs
        have h0 : a.tmps.getD 1 undef = .int .i64 p := h0
        have h1 : a.tmps.getD 160 undef = .bool true := h1
        refine opg_run rfl rfl rfl (by rw [hsz]; decide) h1 (v := .int .i64 p) (w' := w1) ?_ rfl (Below.refl _ _)
        simp [execOp, Act.eval, h0, go_sem]
      · intro a w1 hR hsz hs      -- 30: slot 163
        obtain ⟨h0, h1, _⟩ := hs
        have h0 : a.tmps.getD 2 undef = .int .i64 W := h0
        have h1 : a.tmps.getD 160 undef = .bool true := h1
        refine opg_run rfl rfl rfl (by rw [hsz]; decide) h1 (v := .int .i64 W) (w' := w1) ?_ rfl (Below.refl _ _)
        simp [execOp, Act.eval, h0, go_sem]
      · intro a w1 hR hsz hs      -- 31: slot 164
        obtain ⟨h0, h1, h2, h3, _⟩ := hs
        have h0 : a.tmps.getD 161 undef = .int .u64 n := h0
        have h1 : a.tmps.getD 162 undef = .int .i64 p := h1
        have h2 : a.tmps.getD 163 undef = .int .i64 W := h2
        have h3 : a.tmps.getD 160 undef = .bool true := h3
        refine opg_call rfl rfl rfl (by rw [hsz]; decide) h3 (f := 29) (args := #[.int .u64 n, .int .i64 p, .int .i64 W]) (by simp [execOp, Act.eval, resolve, h0, h1, h2, go_sem]) ?_
        exact calls_dr (cut_any n hn p W w1)
      · intro a w1 hR hsz hs      -- 32: slot 165
        obtain ⟨h0, h1, _⟩ := hs
        have h0 : a.tmps.getD 3 undef = .int .u64 n := h0
        have h1 : a.tmps.getD 160 undef = .bool true := h1
        refine opg_run rfl rfl rfl (by rw [hsz]; decide) h1 (v := .int .u64 n) (w' := w1) ?_ rfl (Below.refl _ _)
        simp [execOp, Act.eval, h0, go_sem]
      · intro a w1 hR hsz hs      -- 33: slot 166
        obtain ⟨h0, h1, _⟩ := hs
        have h0 : a.tmps.getD 1 undef = .int .i64 p := h0
        have h1 : a.tmps.getD 160 undef = .bool true := h1
        refine opg_run rfl rfl rfl (by rw [hsz]; decide) h1 (v := .int .i64 p) (w' := w1) ?_ rfl (Below.refl _ _)
        simp [execOp, Act.eval, h0, go_sem]
      · intro a w1 hR hsz hs      -- 34: slot 167
        obtain ⟨h0, h1, _⟩ := hs
        have h0 : a.tmps.getD 2 undef = .int .i64 W := h0
        have h1 : a.tmps.getD 160 undef = .bool true := h1
        refine opg_run rfl rfl rfl (by rw [hsz]; decide) h1 (v := .int .i64 W) (w' := w1) ?_ rfl (Below.refl _ _)
        simp [execOp, Act.eval, h0, go_sem]
      · intro a w1 hR hsz hs      -- 35: slot 168
        obtain ⟨h0, h1, h2, h3, _⟩ := hs
        have h0 : a.tmps.getD 165 undef = .int .u64 n := h0
        have h1 : a.tmps.getD 166 undef = .int .i64 p := h1
        have h2 : a.tmps.getD 167 undef = .int .i64 W := h2
        have h3 : a.tmps.getD 160 undef = .bool true := h3
        refine opg_call rfl rfl rfl (by rw [hsz]; decide) h3 (f := 30) (args := #[.int .u64 n, .int .i64 p, .int .i64 W]) (by simp [execOp, Act.eval, resolve, h0, h1, h2, go_sem]) ?_
        exact calls_eq (rcut_any n hn p W w1)
      · intro a w1 hR hsz hs      -- 36: slot 169
        obtain ⟨h0, h1, h2, _⟩ := hs
        have h0 : a.tmps.getD 164 undef = .int .u64 (cutN n p W : Nat) := h0
        have h1 : a.tmps.getD 168 undef = .int .u64 (cutN n p W : Nat) := h1
        have h2 : a.tmps.getD 160 undef = .bool true := h2
        refine opg_run rfl rfl rfl (by rw [hsz]; decide) h2 (v := .bool true) (w' := w1) ?_ rfl (Below.refl _ _)
        simp [execOp, Act.eval, h0, h1, go_sem]
      · intro a w1 hR hsz hs      -- 37: slot 170
        obtain ⟨h0, h1, _⟩ := hs
        have h0 : a.tmps.getD 160 undef = .bool true := h0
        have h1 : a.tmps.getD 169 undef = .bool true := h1
        refine op_run rfl rfl (v := .bool true) (w' := w1) ?_ rfl (Below.refl _ _)
        simp [execOp, Act.eval, h0, h1, go_sem]
      · intro a w1 hR hsz hs      -- 38: slot 171
        obtain ⟨h0, _⟩ := hs
        have h0 : a.tmps.getD 170 undef = .bool true := h0
        refine op_run rfl rfl (v := .bool true) (w' := w1) ?_ rfl (Below.refl _ _)
        simp [execOp, Act.eval, h0, go_sem]
      · intro a w1 hR hsz hs      -- 39: slot 172
        obtain ⟨h0, h1, _⟩ := hs
        have h0 : a.tmps.getD 4 undef = .int .i64 k := h0
        have h1 : a.tmps.getD 171 undef = .bool true := h1
        refine opg_run rfl rfl rfl (by rw [hsz]; decide) h1 (v := .int .i64 k) (w' := w1) ?_ rfl (Below.refl _ _)
        simp [execOp, Act.eval, h0, go_sem]
      · intro a w1 hR hsz hs      -- 40: slot 173
        obtain ⟨h0, h1, _⟩ := hs
        have h0 : a.tmps.getD 172 undef = .int .i64 k := h0
        have h1 : a.tmps.getD 171 undef = .bool true := h1
        refine opg_call rfl rfl rfl (by rw [hsz]; decide) h1 (f := 14) (args := #[.int .i64 k]) (by simp [execOp, Act.eval, resolve, h0, go_sem]) ?_
        exact calls_eq (log_any k hk1 w1)
      · intro a w1 hR hsz hs      -- 41: slot 174
        obtain ⟨h0, h1, _⟩ := hs
        have h0 : a.tmps.getD 4 undef = .int .i64 k := h0
        have h1 : a.tmps.getD 171 undef = .bool true := h1
        refine opg_run rfl rfl rfl (by rw [hsz]; decide) h1 (v := .int .i64 k) (w' := w1) ?_ rfl (Below.refl _ _)
        simp [execOp, Act.eval, h0, go_sem]
      · intro a w1 hR hsz hs      -- 42: slot 175
        obtain ⟨h0, h1, _⟩ := hs
        have h0 : a.tmps.getD 174 undef = .int .i64 k := h0
        have h1 : a.tmps.getD 171 undef = .bool true := h1
        refine opg_call rfl rfl rfl (by rw [hsz]; decide) h1 (f := 15) (args := #[.int .i64 k]) (by simp [execOp, Act.eval, resolve, h0, go_sem]) ?_
        exact calls_eq (rlog_any k hk0 hk1 w1)
      · intro a w1 hR hsz hs      -- 43: slot 176
        obtain ⟨h0, h1, h2, _⟩ := hs
        have h0 : a.tmps.getD 173 undef = .int .i64 (logI k) := h0
        have h1 : a.tmps.getD 175 undef = .int .i64 (logI k) := h1
        have h2 : a.tmps.getD 171 undef = .bool true := h2
        refine opg_run rfl rfl rfl (by rw [hsz]; decide) h2 (v := .bool true) (w' := w1) ?_ rfl (Below.refl _ _)
        simp [execOp, Act.eval, h0, h1, go_sem]
      · intro a w1 hR hsz hs      -- 44: slot 177
        obtain ⟨h0, h1, _⟩ := hs
        have h0 : a.tmps.getD 171 undef = .bool true := h0
        have h1 : a.tmps.getD 176 undef = .bool true := h1
        refine op_run rfl rfl (v := .bool true) (w' := w1) ?_ rfl (Below.refl _ _)
        simp [execOp, Act.eval, h0, h1, go_sem]
      · intro a w1 hR hsz hs      -- 45: slot 178
        obtain ⟨h0, _⟩ := hs
        have h0 : a.tmps.getD 177 undef = .bool true := h0
        refine op_run rfl rfl (v := .bool true) (w' := w1) ?_ rfl (Below.refl _ _)
        simp [execOp, Act.eval, h0, go_sem]
      · intro a w1 hR hsz hs      -- 46: slot 179
        obtain ⟨h0, h1, _⟩ := hs
        have h0 : a.tmps.getD 4 undef = .int .i64 k := h0
        have h1 : a.tmps.getD 178 undef = .bool true := h1
        refine opg_run rfl rfl rfl (by rw [hsz]; decide) h1 (v := .int .i64 k) (w' := w1) ?_ rfl (Below.refl _ _)
        simp [execOp, Act.eval, h0, go_sem]
      · intro a w1 hR hsz hs      -- 47: slot 180
        obtain ⟨h0, h1, _⟩ := hs
        have h0 : a.tmps.getD 179 undef = .int .i64 k := h0
        have h1 : a.tmps.getD 178 undef = .bool true := h1
        refine opg_call rfl rfl rfl (by rw [hsz]; decide) h1 (f := 17) (args := #[.int .i64 k]) (by simp [execOp, Act.eval, resolve, h0, go_sem]) ?_
        exact calls_eq (zig_any k hk0 hk1 w1)
      · intro a w1 hR hsz hs      -- 48: slot 181
        obtain ⟨h0, h1, _⟩ := hs
        have h0 : a.tmps.getD 4 undef = .int .i64 k := h0
        have h1 : a.tmps.getD 178 undef = .bool true := h1
        refine opg_run rfl rfl rfl (by rw [hsz]; decide) h1 (v := .int .i64 k) (w' := w1) ?_ rfl (Below.refl _ _)
        simp [execOp, Act.eval, h0, go_sem]
      · intro a w1 hR hsz hs      -- 49: slot 182
        obtain ⟨h0, h1, _⟩ := hs
        have h0 : a.tmps.getD 181 undef = .int .i64 k := h0
        have h1 : a.tmps.getD 178 undef = .bool true := h1
        refine opg_call rfl rfl rfl (by rw [hsz]; decide) h1 (f := 31) (args := #[.int .i64 k]) (by simp [execOp, Act.eval, resolve, h0, go_sem]) ?_
        exact calls_eq (rzig_any k hk0 hk1 w1)
      · intro a w1 hR hsz hs      -- 50: slot 183
        obtain ⟨h0, h1, h2, _⟩ := hs
        have h0 : a.tmps.getD 180 undef = .int .u64 (zigN k : Nat) := h0
        have h1 : a.tmps.getD 182 undef = .int .u64 (zigN k : Nat) := h1
        have h2 : a.tmps.getD 178 undef = .bool true := h2
        refine opg_run rfl rfl rfl (by rw [hsz]; decide) h2 (v := .bool true) (w' := w1) ?_ rfl (Below.refl _ _)
        simp [execOp, Act.eval, h0, h1, go_sem]
      · intro a w1 hR hsz hs      -- 51: slot 184
        obtain ⟨h0, h1, _⟩ := hs
        have h0 : a.tmps.getD 178 undef = .bool true := h0
        have h1 : a.tmps.getD 183 undef = .bool true := h1
        refine op_run rfl rfl (v := .bool true) (w' := w1) ?_ rfl (Below.refl _ _)
        simp [execOp, Act.eval, h0, h1, go_sem]
      · intro a w1 hR hsz hs      -- 52: slot 185
        obtain ⟨h0, _⟩ := hs
        have h0 : a.tmps.getD 184 undef = .bool true := h0
        refine op_run rfl rfl (v := .bool true) (w' := w1) ?_ rfl (Below.refl _ _)
        simp [execOp, Act.eval, h0, go_sem]
      · intro a w1 hR hsz hs      -- 53: slot 186
        obtain ⟨h0, h1, _⟩ := hs
        have h0 : a.tmps.getD 3 undef = .int .u64 n := h0
        have h1 : a.tmps.getD 185 undef = .bool true := h1
        refine opg_run rfl rfl rfl (by rw [hsz]; decide) h1 (v := .int .u64 n) (w' := w1) ?_ rfl (Below.refl _ _)
        simp [execOp, Act.eval, h0, go_sem]
      · intro a w1 hR hsz hs      -- 54: slot 187
        obtain ⟨h0, h1, _⟩ := hs
        have h0 : a.tmps.getD 186 undef = .int .u64 n := h0
        have h1 : a.tmps.getD 185 undef = .bool true := h1
        refine opg_call rfl rfl rfl (by rw [hsz]; decide) h1 (f := 16) (args := #[.int .u64 n]) (by simp [execOp, Act.eval, resolve, h0, go_sem]) ?_
        exact calls_eq (zag_any n hn w1)
      · intro a w1 hR hsz hs      -- 55: slot 188
        obtain ⟨h0, h1, _⟩ := hs
        have h0 : a.tmps.getD 3 undef = .int .u64 n := h0
        have h1 : a.tmps.getD 185 undef = .bool true := h1
        refine opg_run rfl rfl rfl (by rw [hsz]; decide) h1 (v := .int .u64 n) (w' := w1) ?_ rfl (Below.refl _ _)
        simp [execOp, Act.eval, h0, go_sem]
      · intro a w1 hR hsz hs      -- 56: slot 189
        obtain ⟨h0, h1, _⟩ := hs
        have h0 : a.tmps.getD 188 undef = .int .u64 n := h0
        have h1 : a.tmps.getD 185 undef = .bool true := h1
        refine opg_call rfl rfl rfl (by rw [hsz]; decide) h1 (f := 32) (args := #[.int .u64 n]) (by simp [execOp, Act.eval, resolve, h0, go_sem]) ?_
        exact calls_eq (rzag_any n hn w1)
      · intro a w1 hR hsz hs      -- 57: slot 190
        obtain ⟨h0, h1, h2, _⟩ := hs
        have h0 : a.tmps.getD 187 undef = .int .i64 (zagI n) := h0
        have h1 : a.tmps.getD 189 undef = .int .i64 (zagI n) := h1
        have h2 : a.tmps.getD 185 undef = .bool true := h2
        refine opg_run rfl rfl rfl (by rw [hsz]; decide) h2 (v := .bool true) (w' := w1) ?_ rfl (Below.refl _ _)
        simp [execOp, Act.eval, h0, h1, go_sem]
      · intro a w1 hR hsz hs      -- 58: slot 191
        obtain ⟨h0, h1, _⟩ := hs
        have h0 : a.tmps.getD 185 undef = .bool true := h0
        have h1 : a.tmps.getD 190 undef = .bool true := h1
        refine op_run rfl rfl (v := .bool true) (w' := w1) ?_ rfl (Below.refl _ _)
        simp [execOp, Act.eval, h0, h1, go_sem]
      · intro a w1 hR hsz hs      -- 59: slot 192
        obtain ⟨h0, _⟩ := hs
        have h0 : a.tmps.getD 191 undef = .bool true := h0
        refine op_run rfl rfl (v := .bool true) (w' := w1) ?_ rfl (Below.refl _ _)
        simp [execOp, Act.eval, h0, go_sem]
      · intro a w1 hR hsz hs      -- 60: slot 193
        obtain ⟨h0, _⟩ := hs
        have h0 : a.tmps.getD 192 undef = .bool true := h0
        refine opg_call rfl rfl rfl (by rw [hsz]; decide) h0 (f := 18) (args := #[]) (by simp [execOp, Act.eval, resolve, go_sem]) ?_
        exact calls_c (known_any w1)
      · intro a w1 hR hsz hs      -- 61: slot 194
        obtain ⟨h0, h1, _⟩ := hs
        have h0 : a.tmps.getD 192 undef = .bool true := h0
        have h1 : a.tmps.getD 193 undef = .bool true := h1
        refine op_run rfl rfl (v := .bool true) (w' := w1) ?_ rfl (Below.refl _ _)
        simp [execOp, Act.eval, h0, h1, go_sem]
      · intro a w1 hR hsz hs      -- 62: slot 14
        obtain ⟨h0, _⟩ := hs
        have h0 : a.tmps.getD 194 undef = .bool true := h0
        refine op_run rfl rfl (v := .bool true) (w' := w1) ?_ rfl (Below.refl _ _)
        simp [execOp, Act.eval, h0, go_sem]
    · intro f w1 hR hv
      have e62 : f 14 = .bool true := hv 62 _ 14 rfl rfl
      clear hv
      simp only [Exit.then]
      simp only [putAll, List.foldl_cons, List.foldl_nil, Option.getD_some, Act.put, List.setIfInBounds_toArray, List.set_cons_succ, List.set_cons_zero]
      go_wp2_with fail
      go_ret
      exact ⟨congrArg Ending.returned e62, hb.trans (hR.mono hb.size)⟩
    -- END 13

theorem bitsTells_walk (a0 : Option Addr) (cap : Nat) (l : List UInt8) (p W n k most : Int) (s : ByteArray) (w : World) (hr : Row w a0 cap l)
    (w1 : (Lit.int .i64 p).wf = true) (w2 : (Lit.int .i64 W).wf = true) (w3 : (Lit.int .u64 n).wf = true) (w4 : (Lit.int .i64 k).wf = true) (w5 : (Lit.int .i64 most).wf = true) (w6 : s.size ≤ maxLen) :
    Calls Try.prog 4 #[.slice a0 l.length cap, .int .i64 p, .int .i64 W, .int .u64 n, .int .i64 k, .int .i64 most, .string s] w fun e w' => e = .returned (.bool true) ∧ Below w.heap.size w w' := by
  by_cases hb : 300 < l.length ∨ 300 < s.size
  · exact tells_known a0 _ cap p W n k most s w hb
  · obtain ⟨n, rfl, hn⟩ := wf_u64t w3
    have hp := wf_i64t w1
    have hW := wf_i64t w2
    have hk := wf_i64t w4
    exact tells_walk a0 _ cap l p W n k most s w hr rfl (by omega) (by omega) hp.1 hp.2 hW.1 hW.2 hn hk.1 hk.2
end Go.Proofs.Ytdijlglbhddcaaa
