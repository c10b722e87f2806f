/- The law 'ClientTells', walked. -/
import Derived.Test.YtcddbffeejijpaaCuK
import Derived.Test.YtcddbffeejijpaaCuLaw
import Derived.Test.YtcddbffeejijpaaFree
import Derived.Test.YtcddbffeejijpaaPhase
import Derived.Lib.MinMax
namespace Go.Proofs.Ytcddbffeejijpaa
open Go.RowKit Go.Proofs
set_option linter.unusedVariables false
set_option linter.unusedSimpArgs false
set_option linter.unnecessarySimpa false

/-- A call's answer, and a row of one's own, as what an operation of a drawn region leaves. -/
def uV (W0 : World) (rs : List Cu) (re : Int) : SV := ⟨fun w v => ∃ v', v = .tuple #[v', .int .i64 re] ∧ COwn W0 w v' rs, fun w w' v h hb => by
  obtain ⟨v', h1, h2⟩ := h
  exact ⟨v', h1, h2.later hb⟩⟩
def gV {α : Type} (R : RT α) (W0 : World) (rs : List α) : SV := ⟨fun w v => GOwn R W0 w v rs, fun w w' v h hb => h.later hb⟩
theorem uv_of {rs : List Cu} {re : Int} {W0 w : World} {P : FuncId} {args : Array Value} (h : Calls Try.prog P args w (UAct (rs, re) w)) (hb : Below W0.heap.size W0 w) :
    Calls Try.prog P args w fun e w' => ∃ v, e = .returned v ∧ (uV W0 rs re).p w' v ∧ Below w.heap.size w w' :=
  h.mono fun e w' ⟨v, h, o⟩ => ⟨_, h, ⟨v, rfl, o.back hb⟩, o.below⟩
theorem cu_same (w : World) (t : Cu) : (binOp .eql 39 (.agg #[.int .i64 t.id, .int .i64 t.pos, .bool t.off]) (.agg #[.int .i64 t.id, .int .i64 t.pos, .bool t.off])).run Try.prog w = .ok (.bool true) w := by
  have := cu_eql w t t
  simpa using this
set_option maxRecDepth 100000 in
set_option maxHeartbeats 6400000 in
theorem clientTells_known (a0 a1 : Option Addr) (n0 c0 n1 c1 : Nat) (t : Ac) (w : World) (hb : 20 < n0 ∨ 200 < n1) :
    Calls Try.prog 3 #[.slice a0 n0 c0, .slice a1 n1 c1, .agg #[.int .i64 t.what, .int .i64 t.id, .int .i64 t.pos, .bool t.off]] w fun x w' => x = .returned (.bool true) ∧ Below w.heap.size w w' := by
  have HB := Lib.hid ((Below.refl w.heap.size w).alloc (Nat.le_refl _) (.cells #[.int .i64 t.what, .int .i64 t.id, .int .i64 t.pos, .bool t.off] 25))
  rcases (show 20 < (n0 : Int) ∨ (decide (20 < (n0 : Int)) = false ∧ 200 < (n1 : Int)) by simp only [decide_eq_false_iff_not]; omega) with h | ⟨h1, h⟩
  all_goals
    clear hb
    go_enter Try.func3, Try.ntmps3
    go_wp2_with fail
    refine (knownU_any _).mono ?_
    rintro y w2 ⟨rfl, hb2⟩
    go_wp2_with fail
    go_ret
    exact ⟨rfl, HB.out.trans (hb2.mono HB.out.size)⟩
set_option maxRecDepth 100000 in
set_option maxHeartbeats 25600000 in
theorem clientTells_main (a0 a1 : Option Addr) (n0 c0 n1 c1 : Nat) (us : List Cu) (p : List UInt8) (tw ti tp : Int) (tf : Bool) (w : World) (hr : CRow w a0 c0 us) (hn : us.length = n0) (hm0 : n0 ≤ 20) (hq : Row w a1 c1 p) (hqn : p.length = n1) (hm1 : n1 ≤ 200) (htb : Ac.B ⟨tw, ti, tp, tf⟩) :
    Calls Try.prog 3 #[.slice a0 n0 c0, .slice a1 n1 c1, .agg #[.int .i64 tw, .int .i64 ti, .int .i64 tp, .bool tf]] w fun x w' => x = .returned (.bool true) ∧ Below w.heap.size w w' := by
  have hd0 : decide (20 < (n0 : Int)) = false := by simp; omega
  have hd1 : decide (200 < (n1 : Int)) = false := by simp; omega
  have hb : Below w.heap.size w (w.alloc (.cells #[.int .i64 tw, .int .i64 ti, .int .i64 tp, .bool tf] 25)) := (Below.refl w.heap.size w).alloc (Nat.le_refl _) _
  have HB1 := Lib.hid hb
  have HA0 := Lib.hid hr
  have HP0 := Lib.hid hq
  have HAN := Lib.hid hn
  have HPN := Lib.hid hqn
  have HTB := Lib.hid htb
  have hc1 := hr.1
  rw [hn] at hc1
  have hcm : c0 ≤ 9223372036854775807 := by have := hr.2.1; unfold maxLen at this; omega
  have HX1 := Lib.hid (RecAt.new w #[.int .i64 tw, .int .i64 ti, .int .i64 tp, .bool tf] 25)
  clear hr hq hn hqn htb hb
  obtain ⟨X, ex, hX⟩ : ∃ X er, putCu us = (X, er) := ⟨_, _, rfl⟩
  obtain ⟨xn, hxn⟩ : ∃ n, X.length = n := ⟨_, rfl⟩
  obtain ⟨G, eg, hG⟩ : ∃ G eg, getCu p = (G, eg) := ⟨_, _, rfl⟩
  obtain ⟨gn, hgn⟩ : ∃ n, G.length = n := ⟨_, rfl⟩
  obtain ⟨RS, RE, hRS⟩ : ∃ a b, actU us (kindA tw) ti tp tf = (a, b) := ⟨_, _, rfl⟩
  obtain ⟨rn, hrn⟩ : ∃ n, RS.length = n := ⟨_, rfl⟩
  obtain ⟨nS, ok, hsl⟩ : ∃ a b, slowU us = (a, b) := ⟨_, _, rfl⟩
  obtain ⟨RR, hRR⟩ : ∃ b, rightU us = b := ⟨_, rfl⟩
  have HX := Lib.hid hX
  have HXN := Lib.hid hxn
  have HG := Lib.hid hG
  have HGN := Lib.hid hgn
  have HRS := Lib.hid hRS
  have HRN := Lib.hid hrn
  have HSL := Lib.hid hsl
  have HRR := Lib.hid hRR
  have z1 : (ex == ex) = true := by simp
  have z1' : (ex != ex) = false := by simp
  have z2 : (eg == eg) = true := by simp
  have z2' : (eg != eg) = false := by simp
  have z3 : (RE == RE) = true := by simp
  have z3' : (RE != RE) = false := by simp
  clear hX hxn hG hgn hRS hrn hsl hRR
  go_enter Try.func3, Try.ntmps3
  go_upto_region 3 with fail
  generalize hw1 : (w.alloc (.cells #[.int .i64 tw, .int .i64 ti, .int .i64 tp, .bool tf] 25)) = w1 at *
  obtain ⟨p5, hp5⟩ : ∃ x, w.heap.size = x := ⟨_, rfl⟩
  have HP5 := Lib.hid hp5
  rw [hp5] at HX1 ⊢
  clear hw1 hp5
  have HA1 := Lib.hid (HA0.out.later HB1.out)
  have HP1 := Lib.hid (HP0.out.later HB1.out)
  go_wp2_with fail
  refine (uput_any a0 n0 c0 us w1 HA1.out HAN.out).mono ?_
  rw [HX.out]
  rintro e w2 ⟨vX, rfl, oX⟩
  simp only at oX
  obtain ⟨aX, cX, rfl, rX⟩ := oX.row_n HXN.out
  have hb := oX.below
  have HXR2 := Lib.hid rX
  clear oX rX
  have HB2 := Lib.hid (HB1.out.trans (hb.mono HB1.out.size))
  have HX2 := Lib.hid (HX1.out.later hb)
  clear hb
  go_wp2_with fail
  refine (urput_any a0 n0 c0 us w2 (HA0.out.later HB2.out) HAN.out).mono ?_
  rw [HX.out]
  rintro e w3 ⟨vY, rfl, oY⟩
  simp only at oY
  obtain ⟨aY, cY, rfl, rY⟩ := oY.row_n HXN.out
  have hb := oY.below
  have HY3 := Lib.hid rY
  clear oY rY
  have HB3 := Lib.hid (HB2.out.trans (hb.mono HB2.out.size))
  have HX3 := Lib.hid (HX2.out.later hb)
  have HXR3 := Lib.hid (HXR2.out.later hb)
  clear hb
  go_wp2_with fail
  refine (uget_any a1 n1 c1 p w3 (HP0.out.later HB3.out) HPN.out (by omega)).mono ?_
  unfold UGot
  rw [HG.out]
  rintro e w4 ⟨vU, rfl, oU⟩
  simp only at oU
  obtain ⟨aU, cU, rfl, rU⟩ := oU.row_n cuOk HGN.out
  have hb := oU.below
  have HU4 := Lib.hid rU
  clear oU rU
  have HB4 := Lib.hid (HB3.out.trans (hb.mono HB3.out.size))
  have HX4 := Lib.hid (HX3.out.later hb)
  have HXR4 := Lib.hid (HXR3.out.later hb)
  have HY4 := Lib.hid (HY3.out.later hb)
  clear hb
  go_wp2_with fail
  refine (urget_any a1 n1 c1 p w4 (HP0.out.later HB4.out) HPN.out (by omega)).mono ?_
  unfold UGot
  rw [HG.out]
  rintro e w5 ⟨vV, rfl, oV⟩
  simp only at oV
  obtain ⟨aV, cV', rfl, rV⟩ := oV.row_n cuOk HGN.out
  have hb := oV.below
  have HV5 := Lib.hid rV
  clear oV rV
  have HB5 := Lib.hid (HB4.out.trans (hb.mono HB4.out.size))
  have HX5 := Lib.hid (HX4.out.later hb)
  have HXR5 := Lib.hid (HXR4.out.later hb)
  have HY5 := Lib.hid (HY4.out.later hb)
  have HU5 := Lib.hid (HU4.out.later hb)
  clear hb
  have HON := one_any a0 n0 c0 us ⟨tw, ti, tp, tf⟩ w5 (HA0.out.later HB5.out) HAN.out HTB.out
  simp only at HON
  rw [HRS.out] at HON
  have HON := Lib.hid HON
  obtain ⟨x0, x1, x2, x3⟩ := HX5.out.c4U
  go_wp2_with fail
  refine HON.out.mono ?_
  rintro e w7 ⟨vR, rfl, oR⟩
  simp only at oR
  obtain ⟨aR, cR, rfl, rR⟩ := oR.row_n cuOk HRN.out
  have hb := oR.below
  have HR7 := Lib.hid rR
  clear oR rR x0 x1 x2 x3 HON
  have HB7 := Lib.hid (HB5.out.trans (hb.mono HB5.out.size))
  have HX7 := Lib.hid (HX5.out.later hb)
  have HXR7 := Lib.hid (HXR5.out.later hb)
  have HY7 := Lib.hid (HY5.out.later hb)
  have HU7 := Lib.hid (HU5.out.later hb)
  have HV7 := Lib.hid (HV5.out.later hb)
  clear hb
  have HK : Hid (∀ W, Below w7.heap.size w7 W → Calls Try.prog 14 #[.slice a0 n0 c0, .int .i64 (kindA tw : Nat), .int .i64 ti, .int .i64 tp, .bool tf] W (UAct (RS, RE) W)) := Lib.hid (fun W h => by
    have := uract_any a0 n0 c0 us (kindA tw) ti tp tf W (HA0.out.later (HB7.out.trans (h.mono HB7.out.size))) HAN.out (kindA_le tw) HTB.out.2.1 HTB.out.2.2
    rw [HRS.out] at this
    exact this)
  go_upto_region 8 with fail
  -- REG 8
  refine wp_region_ptab (L := fun ph => match ph with | _ => [cV (.slice a0 n0 c0), cV (.agg #[.int .i64 tw, .int .i64 ti, .int .i64 tp, .bool tf]), cV (.int .i64 (kindA tw : Nat)), cV (.pointer (some ⟨p5, 1, none⟩)), cV (.int .i64 ti), cV (.pointer (some ⟨p5, 2, none⟩)), cV (.int .i64 tp), cV (.pointer (some ⟨p5, 3, none⟩)), cV (.bool tf), uV w RS RE, uV w RS RE, gV cuT w RS, cV (.int .i64 RE), gV cuT w RS, cV (.int .i64 RE)]) (fun _ wq => Below w7.heap.size w7 wq) [] [(0, 0), (0, 0), (0, 0), (0, 0), (0, 0), (0, 0), (0, 0), (0, 0), (0, 0), (0, 0), (0, 0), (0, 0), (0, 0), (0, 0), (0, 0)] [[(0, none)], [(5, none)], [(63, some 1)], [(5, none)], [(65, some 3)], [(5, none)], [(67, some 5)], [(5, none)], [(69, some 7)], [(62, some 0), (64, some 2), (66, some 4), (68, some 6), (70, some 8)], [(71, some 9)], [(61, some 10)], [(61, some 10)], [(72, some 11)], [(73, some 12)]] 15 0 173 (by kernel_rfl) rfl rfl rfl (by kernel_rfl) (by kernel_rfl) (by decide) (by kernel_rfl) ?_ ?_ ?_ ?_ ?_
  · exact fun ph w1 w2 h hb => h.trans (hb.mono h.size)
  · exact Below.refl _ _
  · show ∀ i, i < 15 → _
    iterate 15 (refine fls ?_ ?_)
    · exact fl0
    · intro hne lo hi ph hran hp1 hp2 a w1 hJ hsz hs      -- 0: slot 62
      obtain ⟨rfl, rfl⟩ : 0 = lo ∧ 0 = hi := Prod.mk.inj (Option.some.inj hran)
      obtain rfl : ph = 0 := by omega
      obtain ⟨h0, _⟩ := hs
      have h0 : a.tmps.getD 0 undef = .slice a0 n0 c0 := h0
      refine op_run rfl rfl (v := .slice a0 n0 c0) (w' := w1) ?_ rfl (Below.refl _ _)
      simp [execOp, Act.eval, h0, go_sem]
    · intro hne lo hi ph hran hp1 hp2 a w1 hJ hsz hs      -- 1: slot 63
      obtain ⟨rfl, rfl⟩ : 0 = lo ∧ 0 = hi := Prod.mk.inj (Option.some.inj hran)
      obtain rfl : ph = 0 := by omega
      obtain ⟨h0, _⟩ := hs
      have h0 : a.tmps.getD 5 undef = .pointer (some ⟨p5, 0, none⟩) := h0
      obtain ⟨x0, x1, x2, x3⟩ := (HX7.out.later hJ).c4U
      refine op_run rfl rfl (v := .agg #[.int .i64 tw, .int .i64 ti, .int .i64 tp, .bool tf]) (w' := w1) ?_ rfl (Below.refl _ _)
      simp [execOp, Act.eval, h0, x0, x1, x2, x3, go_sem]
    · intro hne lo hi ph hran hp1 hp2 a w1 hJ hsz hs      -- 2: slot 64
      obtain ⟨rfl, rfl⟩ : 0 = lo ∧ 0 = hi := Prod.mk.inj (Option.some.inj hran)
      obtain rfl : ph = 0 := by omega
      obtain ⟨h0, _⟩ := hs
      have h0 : a.tmps.getD 63 undef = .agg #[.int .i64 tw, .int .i64 ti, .int .i64 tp, .bool tf] := h0
      refine op_call rfl rfl (f := 15) (args := #[.agg #[.int .i64 tw, .int .i64 ti, .int .i64 tp, .bool tf]]) (by simp [execOp, Act.eval, resolve, h0, go_sem]) ?_
      exact calls_c (kind_any ⟨tw, ti, tp, tf⟩ w1)
    · intro hne lo hi ph hran hp1 hp2 a w1 hJ hsz hs      -- 3: slot 65
      obtain ⟨rfl, rfl⟩ : 0 = lo ∧ 0 = hi := Prod.mk.inj (Option.some.inj hran)
      obtain rfl : ph = 0 := by omega
      obtain ⟨h0, _⟩ := hs
      have h0 : a.tmps.getD 5 undef = .pointer (some ⟨p5, 0, none⟩) := h0
      refine op_run rfl rfl (v := .pointer (some ⟨p5, 1, none⟩)) (w' := w1) ?_ rfl (Below.refl _ _)
      simp [execOp, Act.eval, h0, go_sem]
    · intro hne lo hi ph hran hp1 hp2 a w1 hJ hsz hs      -- 4: slot 66
      obtain ⟨rfl, rfl⟩ : 0 = lo ∧ 0 = hi := Prod.mk.inj (Option.some.inj hran)
      obtain rfl : ph = 0 := by omega
      obtain ⟨h0, _⟩ := hs
      have h0 : a.tmps.getD 65 undef = .pointer (some ⟨p5, 1, none⟩) := h0
      obtain ⟨x0, x1, x2, x3⟩ := (HX7.out.later hJ).c4U
      refine op_run rfl rfl (v := .int .i64 ti) (w' := w1) ?_ rfl (Below.refl _ _)
      simp [execOp, Act.eval, h0, x1, go_sem]
    · intro hne lo hi ph hran hp1 hp2 a w1 hJ hsz hs      -- 5: slot 67
      obtain ⟨rfl, rfl⟩ : 0 = lo ∧ 0 = hi := Prod.mk.inj (Option.some.inj hran)
      obtain rfl : ph = 0 := by omega
      obtain ⟨h0, _⟩ := hs
      have h0 : a.tmps.getD 5 undef = .pointer (some ⟨p5, 0, none⟩) := h0
      refine op_run rfl rfl (v := .pointer (some ⟨p5, 2, none⟩)) (w' := w1) ?_ rfl (Below.refl _ _)
      simp [execOp, Act.eval, h0, go_sem]
    · intro hne lo hi ph hran hp1 hp2 a w1 hJ hsz hs      -- 6: slot 68
      obtain ⟨rfl, rfl⟩ : 0 = lo ∧ 0 = hi := Prod.mk.inj (Option.some.inj hran)
      obtain rfl : ph = 0 := by omega
      obtain ⟨h0, _⟩ := hs
      have h0 : a.tmps.getD 67 undef = .pointer (some ⟨p5, 2, none⟩) := h0
      obtain ⟨x0, x1, x2, x3⟩ := (HX7.out.later hJ).c4U
      refine op_run rfl rfl (v := .int .i64 tp) (w' := w1) ?_ rfl (Below.refl _ _)
      simp [execOp, Act.eval, h0, x2, go_sem]
    · intro hne lo hi ph hran hp1 hp2 a w1 hJ hsz hs      -- 7: slot 69
      obtain ⟨rfl, rfl⟩ : 0 = lo ∧ 0 = hi := Prod.mk.inj (Option.some.inj hran)
      obtain rfl : ph = 0 := by omega
      obtain ⟨h0, _⟩ := hs
      have h0 : a.tmps.getD 5 undef = .pointer (some ⟨p5, 0, none⟩) := h0
      refine op_run rfl rfl (v := .pointer (some ⟨p5, 3, none⟩)) (w' := w1) ?_ rfl (Below.refl _ _)
      simp [execOp, Act.eval, h0, go_sem]
    · intro hne lo hi ph hran hp1 hp2 a w1 hJ hsz hs      -- 8: slot 70
      obtain ⟨rfl, rfl⟩ : 0 = lo ∧ 0 = hi := Prod.mk.inj (Option.some.inj hran)
      obtain rfl : ph = 0 := by omega
      obtain ⟨h0, _⟩ := hs
      have h0 : a.tmps.getD 69 undef = .pointer (some ⟨p5, 3, none⟩) := h0
      obtain ⟨x0, x1, x2, x3⟩ := (HX7.out.later hJ).c4U
      refine op_run rfl rfl (v := .bool tf) (w' := w1) ?_ rfl (Below.refl _ _)
      simp [execOp, Act.eval, h0, x3, go_sem]
    · intro hne lo hi ph hran hp1 hp2 a w1 hJ hsz hs      -- 9: slot 71
      obtain ⟨rfl, rfl⟩ : 0 = lo ∧ 0 = hi := Prod.mk.inj (Option.some.inj hran)
      obtain rfl : ph = 0 := by omega
      obtain ⟨h0, h1, h2, h3, h4, _⟩ := hs
      have h0 : a.tmps.getD 62 undef = .slice a0 n0 c0 := h0
      have h1 : a.tmps.getD 64 undef = .int .i64 (kindA tw : Nat) := h1
      have h2 : a.tmps.getD 66 undef = .int .i64 ti := h2
      have h3 : a.tmps.getD 68 undef = .int .i64 tp := h3
      have h4 : a.tmps.getD 70 undef = .bool tf := h4
      refine op_call rfl rfl (f := 14) (args := #[.slice a0 n0 c0, .int .i64 (kindA tw : Nat), .int .i64 ti, .int .i64 tp, .bool tf]) (by simp [execOp, Act.eval, resolve, h0, h1, h2, h3, h4, go_sem]) ?_
      exact uv_of (HK.out w1 hJ) (HB7.out.trans (hJ.mono HB7.out.size))
    · intro hne lo hi ph hran hp1 hp2 a w1 hJ hsz hs      -- 10: slot 61
      obtain ⟨rfl, rfl⟩ : 0 = lo ∧ 0 = hi := Prod.mk.inj (Option.some.inj hran)
      obtain rfl : ph = 0 := by omega
      obtain ⟨h0, _⟩ := hs
      have m0 : (uV w RS RE).p w1 (a.tmps.getD 71 undef) := h0
      exact op_run rfl rfl (v := a.tmps.getD 71 undef) (w' := w1) (by simp [execOp, Act.eval, go_sem]) m0 (Below.refl _ _)
    · intro hne lo hi ph hran hp1 hp2 a w1 hJ hsz hs      -- 11: slot 72
      obtain ⟨rfl, rfl⟩ : 0 = lo ∧ 0 = hi := Prod.mk.inj (Option.some.inj hran)
      obtain rfl : ph = 0 := by omega
      obtain ⟨h0, _⟩ := hs
      have m0 : (uV w RS RE).p w1 (a.tmps.getD 61 undef) := h0
      obtain ⟨v9, hv9, o9⟩ := m0
      exact op_run rfl rfl (v := v9) (w' := w1) (by simp [execOp, Act.eval, hv9, go_sem]) o9 (Below.refl _ _)
    · intro hne lo hi ph hran hp1 hp2 a w1 hJ hsz hs      -- 12: slot 73
      obtain ⟨rfl, rfl⟩ : 0 = lo ∧ 0 = hi := Prod.mk.inj (Option.some.inj hran)
      obtain rfl : ph = 0 := by omega
      obtain ⟨h0, _⟩ := hs
      have m0 : (uV w RS RE).p w1 (a.tmps.getD 61 undef) := h0
      obtain ⟨v9, hv9, o9⟩ := m0
      exact op_run rfl rfl (v := .int .i64 RE) (w' := w1) (by simp [execOp, Act.eval, hv9, go_sem]) rfl (Below.refl _ _)
    · intro hne lo hi ph hran hp1 hp2 a w1 hJ hsz hs      -- 13: slot 17
      obtain ⟨rfl, rfl⟩ : 0 = lo ∧ 0 = hi := Prod.mk.inj (Option.some.inj hran)
      obtain rfl : ph = 0 := by omega
      obtain ⟨h0, _⟩ := hs
      have m0 : (gV cuT w RS).p w1 (a.tmps.getD 72 undef) := h0
      exact op_run rfl rfl (v := a.tmps.getD 72 undef) (w' := w1) (by simp [execOp, Act.eval, go_sem]) m0 (Below.refl _ _)
    · intro hne lo hi ph hran hp1 hp2 a w1 hJ hsz hs      -- 14: slot 18
      obtain ⟨rfl, rfl⟩ : 0 = lo ∧ 0 = hi := Prod.mk.inj (Option.some.inj hran)
      obtain rfl : ph = 0 := by omega
      obtain ⟨h0, _⟩ := hs
      have h0 : a.tmps.getD 73 undef = .int .i64 RE := h0
      refine op_run rfl rfl (v := .int .i64 RE) (w' := w1) ?_ rfl (Below.refl _ _)
      simp [execOp, Act.eval, h0, go_sem]
  · show ∀ ph, ph < 0 → _
    iterate 0 (refine fls ?_ ?_)
    · exact fl0
  intro f w1 hJ hv
  have e17 : (gV cuT w RS).p w1 (f 17) := hv 13 _ 17 rfl rfl
  have e18 : f 18 = .int .i64 RE := hv 14 _ 18 rfl rfl
  clear hv
  try simp only [Exit.then]
  simp only [putAll, List.foldl_cons, List.foldl_nil, Option.getD_some, Act.put, List.setIfInBounds_toArray, List.set_cons_succ, List.set_cons_zero]
  rw [e18]
  generalize f 17 = v17 at e17 ⊢
  have o17 : COwn w w1 v17 RS := e17
  clear e17 e18
  -- END 8
  rename World => w8
  obtain ⟨aQ, cQ, rfl, rQ⟩ := o17.row_n cuOk HRN.out
  have HB8 := Lib.hid (HB7.out.trans (hJ.mono HB7.out.size))
  have HQ8 := Lib.hid rQ
  have HX8 := Lib.hid (HX7.out.later hJ)
  have HU8 := Lib.hid (HU7.out.later hJ)
  have HV8 := Lib.hid (HV7.out.later hJ)
  have HR8 := Lib.hid (HR7.out.later hJ)
  have q1 := conv_row_n (HXR7.out.later hJ) HXN.out
  have q2 := conv_row_n (HY7.out.later hJ) HXN.out
  have HS1 := usame_any aU aV gn gn cU cV' G G w8 HU8.out HV8.out HGN.out HGN.out
  rw [show decide (G = G) = true by simp] at HS1
  have HS1 := Lib.hid HS1
  have HS2 := Lib.hid (fun W (h : Below w8.heap.size w8 W) => usame_any aR aQ rn rn cR cQ RS RS W (HR8.out.later h) (HQ8.out.later h) HRN.out HRN.out)
  rw [show decide (RS = RS) = true by simp] at HS2
  generalize (⟨X.toArray⟩ : ByteArray) = S1 at *
  have hds : (S1.toList == S1.toList) = true := by simp
  have hds2 : (S1.toList != S1.toList) = false := by simp
  clear rQ o17 hJ HK HXR7 HXR5 HXR4 HXR3 HXR2 HY7 HY5 HY4 HY3 HU7 HV7 HR7
  go_wp2_with fail
  go_at_call 16
  refine HS1.out.mono ?_
  rintro e w9 ⟨rfl, hb9⟩
  have HW9 := Lib.hid hb9
  clear hb9
  go_wp2_with fail
  go_at_call 16
  refine (HS2.out w9 HW9.out).mono ?_
  rintro e w10 ⟨rfl, hb10⟩
  go_upto_region 11 with fail
  have HB10 := Lib.hid (HB8.out.trans ((HW9.out.trans (hb10.mono HW9.out.size)).mono HB8.out.size))
  have HX10 := Lib.hid (HX8.out.later (HW9.out.trans (hb10.mono HW9.out.size)))
  clear hb10 HS1 HS2 q1 q2 hds hds2 z1 z1' z2 z2' z3 z3'
  have HSA := uslow_any a0 n0 c0 us w10 (HA0.out.later HB10.out) HAN.out
  rw [HSL.out] at HSA
  have HSA := Lib.hid HSA
  go_wp2_with fail
  refine HSA.out.mono ?_
  rintro e w11 ⟨rfl, hb11⟩
  have HB11 := Lib.hid (HB10.out.trans (hb11.mono HB10.out.size))
  have HX11 := Lib.hid (HX10.out.later hb11)
  clear hb11 HSA
  have HSB := urslow_any a0 n0 c0 us w11 (HA0.out.later HB11.out) HAN.out
  rw [HSL.out] at HSB
  have HSB := Lib.hid HSB
  go_wp2_with fail
  refine HSB.out.mono ?_
  rintro e w12 ⟨rfl, rfl⟩
  clear HSB
  have HFA := ufind_any a0 n0 c0 us ti w11 (HA0.out.later HB11.out) HAN.out
  have HFB := Lib.hid (fun W (h : Below w.heap.size w W) => urfind_any a0 n0 c0 us ti W (HA0.out.later h) HAN.out)
  have HR1 := Lib.hid (fun W (h : Below w.heap.size w W) => uright_any a0 n0 c0 us W (HA0.out.later h) HAN.out)
  have HR2 := Lib.hid (fun W (h : Below w.heap.size w W) => urright_any a0 n0 c0 us W (HA0.out.later h) HAN.out)
  rw [HRR.out] at HR1 HR2
  obtain ⟨x0, x1, x2, x3⟩ := HX11.out.c4U
  cases hpl : placeU us ti with
  | some i =>
    obtain ⟨t, ht, -⟩ := placeU_some hpl
    rw [findU_here ht hpl] at HFA
    rw [hpl] at HFB
    simp only [numU] at HFB
    have hi := placeU_lt hpl
    rw [HAN.out] at hi
    have HT := Lib.hid ht
    have HFA := Lib.hid HFA
    clear hpl ht
    obtain ⟨qi, qp, qf⟩ := t
    go_wp2_with fail
    go_at_call 19
    refine HFA.out.mono ?_
    rintro e w13 ⟨rfl, hb13⟩
    go_upto_region 14 with fail
    have hba : Below w13.heap.size w13 (w13.alloc (.cells #[.int .i64 qi, .int .i64 qp, .bool qf] 39)) := (Below.refl _ _).alloc (Nat.le_refl _) _
    have HW14 := Lib.hid (hb13.trans (hba.mono hb13.size))
    have HB9 := Lib.hid (HB11.out.trans (HW14.out.mono HB11.out.size))
    have HX9 := Lib.hid (RecAt.new w13 #[.int .i64 qi, .int .i64 qp, .bool qf] 39)
    clear hb13 hba x0 x1 x2 x3
    generalize (w13.alloc (.cells #[.int .i64 qi, .int .i64 qp, .bool qf] 39)) = w14 at *
    generalize w13.heap.size = p23 at *
    have HXA := Lib.hid (HX11.out.later HW14.out)
    obtain ⟨x0, x1, x2, x3⟩ := HXA.out.c4U
    have HFB2 := Lib.hid (HFB.out w14 HB9.out)
    go_wp2_with fail
    refine HFB2.out.mono ?_
    rintro e w15 ⟨rfl, rfl⟩
    have HR1 := Lib.hid (fun W (h : Below w14.heap.size w14 W) => HR1.out W (HB9.out.trans (h.mono HB9.out.size)))
    have HR2 := Lib.hid (fun W (h : Below w14.heap.size w14 W) => HR2.out W (HB9.out.trans (h.mono HB9.out.size)))
    clear x0 x1 x2 x3 HFB HFB2 HFA
    obtain ⟨b0, o0, rfl, _⟩ := HA0.out.c3 HT.out
    have HC : Hid (∀ W, Below w14.heap.size w14 W → W.cell? ⟨b0, o0 + i * 3, none⟩ = some (.int .i64 qi) ∧ W.cell? ⟨b0, o0 + i * 3 + 1, none⟩ = some (.int .i64 qp) ∧ W.cell? ⟨b0, o0 + i * 3 + 2, none⟩ = some (.bool qf)) := Lib.hid (fun W h => by
      obtain ⟨b, o, e, q⟩ := (HA0.out.later (HB9.out.trans (h.mono HB9.out.size))).c3 HT.out
      cases e
      exact q)
    go_upto_region 15 with fail
    -- REG Y
    refine wp_region_tab (L := [cV (.slice (some ⟨b0, o0, none⟩) n0 c0), cV (.bool RR), cV (.slice (some ⟨b0, o0, none⟩) n0 c0), cV (.bool RR), cV (.bool true), cV (.bool true), cV (.int .i64 nS), cV (.int .i64 nS), cV (.bool true), cV (.bool true), cV (.bool true), cV (.bool ok), cV (.bool ok), cV (.bool true), cV (.bool true), cV (.bool true), cV (.bool true), cV (.int .i64 (i : Nat)), cV (.bool true), cV (.bool true), cV (.bool true), cV (.bool true), cV (.int .i64 (i : Nat)), cV (.bool true), cV (.bool true), cV (.agg #[.int .i64 qi, .int .i64 qp, .bool qf]), cV (.slice (some ⟨b0, o0, none⟩) n0 c0), cV (.int .i64 (i : Nat)), cV (.int .i64 (i : Nat)), cV (.pointer (some ⟨b0, o0 + i * 3, none⟩)), cV (.agg #[.int .i64 qi, .int .i64 qp, .bool qf]), cV (.bool true), cV (.bool true), cV (.bool true), cV (undef), cV (undef), cV (undef), cV (undef), cV (undef), cV (undef), cV (undef), cV (Value.bool true), cV (Value.bool true), cV (Value.bool true), cV (.bool true), cV (.bool true), cV (.bool true)]) [[(0, none)], [(127, some 0)], [(0, none)], [(129, some 2)], [(128, some 1), (130, some 3)], [(131, some 4)], [(19, none), (132, some 5)], [(21, none), (132, some 5)], [(133, some 6), (134, some 7), (132, some 5)], [(132, some 5), (135, some 8)], [(136, some 9)], [(20, none), (137, some 10)], [(22, none), (137, some 10)], [(138, some 11), (139, some 12), (137, some 10)], [(137, some 10), (140, some 13)], [(141, some 14)], [(24, none), (142, some 15)], [(25, none), (142, some 15)], [(144, some 17), (142, some 15)], [(143, some 16), (145, some 18), (142, some 15)], [(142, some 15), (146, some 19)], [(147, some 20)], [(25, none), (148, some 21)], [(149, some 22), (148, some 21)], [(150, some 23), (148, some 21)], [(23, none), (151, some 24)], [(0, none), (151, some 24)], [(25, none), (151, some 24)], [(154, some 27), (151, some 24)], [(153, some 26), (155, some 28), (151, some 24)], [(156, some 29), (151, some 24)], [(152, some 25), (157, some 30), (151, some 24)], [(151, some 24), (158, some 31), (148, some 21)], [(159, some 32), (148, some 21)], [(25, none), (160, some 33)], [(161, some 34), (160, some 33)], [(162, some 35), (160, some 33)], [(23, none), (163, some 36)], [(163, some 36)], [(164, some 37), (165, some 38), (163, some 36)], [(163, some 36), (166, some 39), (160, some 33)], [(160, some 33), (167, some 40), (148, some 21)], [(148, some 21), (168, some 41)], [(169, some 42)], [(170, some 43)], [(170, some 43), (171, some 44)], [(172, some 45)]] 47 173 (by kernel_rfl) rfl rfl (by kernel_rfl) (by kernel_rfl) ?_ ?_
    · show ∀ i, i < 47 → _
      iterate 47 (refine fls ?_ ?_)
      · exact fl0
      · intro a w1 hR hsz hs      -- 0: slot 127
        obtain ⟨h0, _⟩ := hs
        have h0 : a.tmps.getD 0 undef = .slice (some ⟨b0, o0, none⟩) n0 c0 := h0
        refine op_run rfl rfl (v := .slice (some ⟨b0, o0, none⟩) n0 c0) (w' := w1) ?_ rfl (Below.refl _ _)
        simp [execOp, Act.eval, h0, go_sem]
      · intro a w1 hR hsz hs      -- 1: slot 128
        obtain ⟨h0, _⟩ := hs
        have h0 : a.tmps.getD 127 undef = .slice (some ⟨b0, o0, none⟩) n0 c0 := h0
        refine op_call rfl rfl (f := 21) (args := #[.slice (some ⟨b0, o0, none⟩) n0 c0]) (by simp [execOp, Act.eval, resolve, h0, go_sem]) ?_
        exact calls_c (HR1.out w1 hR)
      · intro a w1 hR hsz hs      -- 2: slot 129
        obtain ⟨h0, _⟩ := hs
        have h0 : a.tmps.getD 0 undef = .slice (some ⟨b0, o0, none⟩) n0 c0 := h0
        refine op_run rfl rfl (v := .slice (some ⟨b0, o0, none⟩) n0 c0) (w' := w1) ?_ rfl (Below.refl _ _)
        simp [execOp, Act.eval, h0, go_sem]
      · intro a w1 hR hsz hs      -- 3: slot 130
        obtain ⟨h0, _⟩ := hs
        have h0 : a.tmps.getD 129 undef = .slice (some ⟨b0, o0, none⟩) n0 c0 := h0
        refine op_call rfl rfl (f := 22) (args := #[.slice (some ⟨b0, o0, none⟩) n0 c0]) (by simp [execOp, Act.eval, resolve, h0, go_sem]) ?_
        exact calls_c (HR2.out w1 hR)
      · intro a w1 hR hsz hs      -- 4: slot 131
        obtain ⟨h0, h1, _⟩ := hs
        have h0 : a.tmps.getD 128 undef = .bool RR := h0
        have h1 : a.tmps.getD 130 undef = .bool RR := h1
        refine op_run rfl rfl (v := .bool true) (w' := w1) ?_ rfl (Below.refl _ _)
        simp [execOp, Act.eval, h0, h1, go_sem]
      · intro a w1 hR hsz hs      -- 5: slot 132
        obtain ⟨h0, _⟩ := hs
        have h0 : a.tmps.getD 131 undef = .bool true := h0
        refine op_run rfl rfl (v := .bool true) (w' := w1) ?_ rfl (Below.refl _ _)
        simp [execOp, Act.eval, h0, go_sem]
      · intro a w1 hR hsz hs      -- 6: slot 133
        obtain ⟨h0, h1, _⟩ := hs
        have h0 : a.tmps.getD 19 undef = .int .i64 nS := h0
        have h1 : a.tmps.getD 132 undef = .bool true := h1
        refine opg_run rfl rfl rfl (by rw [hsz]; decide) h1 (v := .int .i64 nS) (w' := w1) ?_ rfl (Below.refl _ _)
        simp [execOp, Act.eval, h0, go_sem]
      · intro a w1 hR hsz hs      -- 7: slot 134
        obtain ⟨h0, h1, _⟩ := hs
        have h0 : a.tmps.getD 21 undef = .int .i64 nS := h0
        have h1 : a.tmps.getD 132 undef = .bool true := h1
        refine opg_run rfl rfl rfl (by rw [hsz]; decide) h1 (v := .int .i64 nS) (w' := w1) ?_ rfl (Below.refl _ _)
        simp [execOp, Act.eval, h0, go_sem]
      · intro a w1 hR hsz hs      -- 8: slot 135
        obtain ⟨h0, h1, h2, _⟩ := hs
        have h0 : a.tmps.getD 133 undef = .int .i64 nS := h0
        have h1 : a.tmps.getD 134 undef = .int .i64 nS := h1
        have h2 : a.tmps.getD 132 undef = .bool true := h2
        refine opg_run rfl rfl rfl (by rw [hsz]; decide) h2 (v := .bool true) (w' := w1) ?_ rfl (Below.refl _ _)
        simp [execOp, Act.eval, h0, h1, go_sem]
      · intro a w1 hR hsz hs      -- 9: slot 136
        obtain ⟨h0, h1, _⟩ := hs
        have h0 : a.tmps.getD 132 undef = .bool true := h0
        have h1 : a.tmps.getD 135 undef = .bool true := h1
        refine op_run rfl rfl (v := .bool true) (w' := w1) ?_ rfl (Below.refl _ _)
        simp [execOp, Act.eval, h0, h1, go_sem]
      · intro a w1 hR hsz hs      -- 10: slot 137
        obtain ⟨h0, _⟩ := hs
        have h0 : a.tmps.getD 136 undef = .bool true := h0
        refine op_run rfl rfl (v := .bool true) (w' := w1) ?_ rfl (Below.refl _ _)
        simp [execOp, Act.eval, h0, go_sem]
      · intro a w1 hR hsz hs      -- 11: slot 138
        obtain ⟨h0, h1, _⟩ := hs
        have h0 : a.tmps.getD 20 undef = .bool ok := h0
        have h1 : a.tmps.getD 137 undef = .bool true := h1
        refine opg_run rfl rfl rfl (by rw [hsz]; decide) h1 (v := .bool ok) (w' := w1) ?_ rfl (Below.refl _ _)
        simp [execOp, Act.eval, h0, go_sem]
      · intro a w1 hR hsz hs      -- 12: slot 139
        obtain ⟨h0, h1, _⟩ := hs
        have h0 : a.tmps.getD 22 undef = .bool ok := h0
        have h1 : a.tmps.getD 137 undef = .bool true := h1
        refine opg_run rfl rfl rfl (by rw [hsz]; decide) h1 (v := .bool ok) (w' := w1) ?_ rfl (Below.refl _ _)
        simp [execOp, Act.eval, h0, go_sem]
      · intro a w1 hR hsz hs      -- 13: slot 140
        obtain ⟨h0, h1, h2, _⟩ := hs
        have h0 : a.tmps.getD 138 undef = .bool ok := h0
        have h1 : a.tmps.getD 139 undef = .bool ok := h1
        have h2 : a.tmps.getD 137 undef = .bool true := h2
        refine opg_run rfl rfl rfl (by rw [hsz]; decide) h2 (v := .bool true) (w' := w1) ?_ rfl (Below.refl _ _)
        simp [execOp, Act.eval, h0, h1, go_sem]
      · intro a w1 hR hsz hs      -- 14: slot 141
        obtain ⟨h0, h1, _⟩ := hs
        have h0 : a.tmps.getD 137 undef = .bool true := h0
        have h1 : a.tmps.getD 140 undef = .bool true := h1
        refine op_run rfl rfl (v := .bool true) (w' := w1) ?_ rfl (Below.refl _ _)
        simp [execOp, Act.eval, h0, h1, go_sem]
      · intro a w1 hR hsz hs      -- 15: slot 142
        obtain ⟨h0, _⟩ := hs
        have h0 : a.tmps.getD 141 undef = .bool true := h0
        refine op_run rfl rfl (v := .bool true) (w' := w1) ?_ rfl (Below.refl _ _)
        simp [execOp, Act.eval, h0, go_sem]
      · intro a w1 hR hsz hs      -- 16: slot 143
        obtain ⟨h0, h1, _⟩ := hs
        have h0 : a.tmps.getD 24 undef = .bool true := h0
        have h1 : a.tmps.getD 142 undef = .bool true := h1
        refine opg_run rfl rfl rfl (by rw [hsz]; decide) h1 (v := .bool true) (w' := w1) ?_ rfl (Below.refl _ _)
        simp [execOp, Act.eval, h0, go_sem]
      · intro a w1 hR hsz hs      -- 17: slot 144
        obtain ⟨h0, h1, _⟩ := hs
        have h0 : a.tmps.getD 25 undef = .int .i64 (i : Nat) := h0
        have h1 : a.tmps.getD 142 undef = .bool true := h1
        refine opg_run rfl rfl rfl (by rw [hsz]; decide) h1 (v := .int .i64 (i : Nat)) (w' := w1) ?_ rfl (Below.refl _ _)
        simp [execOp, Act.eval, h0, go_sem]
      · intro a w1 hR hsz hs      -- 18: slot 145
        obtain ⟨h0, h1, _⟩ := hs
        have h0 : a.tmps.getD 144 undef = .int .i64 (i : Nat) := h0
        have h1 : a.tmps.getD 142 undef = .bool true := h1
        refine opg_run rfl rfl rfl (by rw [hsz]; decide) h1 (v := .bool true) (w' := w1) ?_ rfl (Below.refl _ _)
        simp [execOp, Act.eval, h0, go_sem]
      · intro a w1 hR hsz hs      -- 19: slot 146
        obtain ⟨h0, h1, h2, _⟩ := hs
        have h0 : a.tmps.getD 143 undef = .bool true := h0
        have h1 : a.tmps.getD 145 undef = .bool true := h1
        have h2 : a.tmps.getD 142 undef = .bool true := h2
        refine opg_run rfl rfl rfl (by rw [hsz]; decide) h2 (v := .bool true) (w' := w1) ?_ rfl (Below.refl _ _)
        simp [execOp, Act.eval, h0, h1, go_sem]
      · intro a w1 hR hsz hs      -- 20: slot 147
        obtain ⟨h0, h1, _⟩ := hs
        have h0 : a.tmps.getD 142 undef = .bool true := h0
        have h1 : a.tmps.getD 146 undef = .bool true := h1
        refine op_run rfl rfl (v := .bool true) (w' := w1) ?_ rfl (Below.refl _ _)
        simp [execOp, Act.eval, h0, h1, go_sem]
      · intro a w1 hR hsz hs      -- 21: slot 148
        obtain ⟨h0, _⟩ := hs
        have h0 : a.tmps.getD 147 undef = .bool true := h0
        refine op_run rfl rfl (v := .bool true) (w' := w1) ?_ rfl (Below.refl _ _)
        simp [execOp, Act.eval, h0, go_sem]
      · intro a w1 hR hsz hs      -- 22: slot 149
        obtain ⟨h0, h1, _⟩ := hs
        have h0 : a.tmps.getD 25 undef = .int .i64 (i : Nat) := h0
        have h1 : a.tmps.getD 148 undef = .bool true := h1
        refine opg_run rfl rfl rfl (by rw [hsz]; decide) h1 (v := .int .i64 (i : Nat)) (w' := w1) ?_ rfl (Below.refl _ _)
        simp [execOp, Act.eval, h0, go_sem]
      · intro a w1 hR hsz hs      -- 23: slot 150
        obtain ⟨h0, h1, _⟩ := hs
        have h0 : a.tmps.getD 149 undef = .int .i64 (i : Nat) := h0
        have h1 : a.tmps.getD 148 undef = .bool true := h1
        refine opg_run rfl rfl rfl (by rw [hsz]; decide) h1 (v := .bool true) (w' := w1) ?_ rfl (Below.refl _ _)
        simp [execOp, Act.eval, h0, go_sem]
      · intro a w1 hR hsz hs      -- 24: slot 151
        obtain ⟨h0, h1, _⟩ := hs
        have h0 : a.tmps.getD 150 undef = .bool true := h0
        have h1 : a.tmps.getD 148 undef = .bool true := h1
        refine opg_run rfl rfl rfl (by rw [hsz]; decide) h1 (v := .bool true) (w' := w1) ?_ rfl (Below.refl _ _)
        simp [execOp, Act.eval, h0, go_sem]
      · intro a w1 hR hsz hs      -- 25: slot 152
        obtain ⟨h0, h1, _⟩ := hs
        have h0 : a.tmps.getD 23 undef = .pointer (some ⟨p23, 0, none⟩) := h0
        have h1 : a.tmps.getD 151 undef = .bool true := h1
        obtain ⟨x0, x1, x2⟩ := (HX9.out.later hR).c3
        refine opg_run rfl rfl rfl (by rw [hsz]; decide) h1 (v := .agg #[.int .i64 qi, .int .i64 qp, .bool qf]) (w' := w1) ?_ rfl (Below.refl _ _)
        simp [execOp, Act.eval, h0, x0, x1, x2, go_sem]
      · intro a w1 hR hsz hs      -- 26: slot 153
        obtain ⟨h0, h1, _⟩ := hs
        have h0 : a.tmps.getD 0 undef = .slice (some ⟨b0, o0, none⟩) n0 c0 := h0
        have h1 : a.tmps.getD 151 undef = .bool true := h1
        refine opg_run rfl rfl rfl (by rw [hsz]; decide) h1 (v := .slice (some ⟨b0, o0, none⟩) n0 c0) (w' := w1) ?_ rfl (Below.refl _ _)
        simp [execOp, Act.eval, h0, go_sem]
      · intro a w1 hR hsz hs      -- 27: slot 154
        obtain ⟨h0, h1, _⟩ := hs
        have h0 : a.tmps.getD 25 undef = .int .i64 (i : Nat) := h0
        have h1 : a.tmps.getD 151 undef = .bool true := h1
        refine opg_run rfl rfl rfl (by rw [hsz]; decide) h1 (v := .int .i64 (i : Nat)) (w' := w1) ?_ rfl (Below.refl _ _)
        simp [execOp, Act.eval, h0, go_sem]
      · intro a w1 hR hsz hs      -- 28: slot 155
        obtain ⟨h0, h1, _⟩ := hs
        have h0 : a.tmps.getD 154 undef = .int .i64 (i : Nat) := h0
        have h1 : a.tmps.getD 151 undef = .bool true := h1
        have k0 : max (i : Int) 0 = i := by omega
        refine opg_run rfl rfl rfl (by rw [hsz]; decide) h1 (v := .int .i64 (i : Nat)) (w' := w1) ?_ rfl (Below.refl _ _)
        simp [execOp, Act.eval, h0, k0, go_sem]
      · intro a w1 hR hsz hs      -- 29: slot 156
        obtain ⟨h0, h1, h2, _⟩ := hs
        have h0 : a.tmps.getD 153 undef = .slice (some ⟨b0, o0, none⟩) n0 c0 := h0
        have h1 : a.tmps.getD 155 undef = .int .i64 (i : Nat) := h1
        have h2 : a.tmps.getD 151 undef = .bool true := h2
        have k0 : ((i : Nat) : Int) < (n0 : Int) := by omega
        refine opg_run rfl rfl rfl (by rw [hsz]; decide) h2 (v := .pointer (some ⟨b0, o0 + i * 3, none⟩)) (w' := w1) ?_ rfl (Below.refl _ _)
        simp [execOp, Act.eval, h0, h1, k0, go_sem]
      · intro a w1 hR hsz hs      -- 30: slot 157
        obtain ⟨h0, h1, _⟩ := hs
        have h0 : a.tmps.getD 156 undef = .pointer (some ⟨b0, o0 + i * 3, none⟩) := h0
        have h1 : a.tmps.getD 151 undef = .bool true := h1
        obtain ⟨k0, k1, k2⟩ := HC.out w1 hR
        refine opg_run rfl rfl rfl (by rw [hsz]; decide) h1 (v := .agg #[.int .i64 qi, .int .i64 qp, .bool qf]) (w' := w1) ?_ rfl (Below.refl _ _)
        simp [execOp, Act.eval, h0, k0, k1, k2, go_sem]
      · intro a w1 hR hsz hs      -- 31: slot 158
        obtain ⟨h0, h1, h2, _⟩ := hs
        have h0 : a.tmps.getD 152 undef = .agg #[.int .i64 qi, .int .i64 qp, .bool qf] := h0
        have h1 : a.tmps.getD 157 undef = .agg #[.int .i64 qi, .int .i64 qp, .bool qf] := h1
        have h2 : a.tmps.getD 151 undef = .bool true := h2
        have k0 := cu_same w1 ⟨qi, qp, qf⟩
        refine opg_run rfl rfl rfl (by rw [hsz]; decide) h2 (v := .bool true) (w' := w1) ?_ rfl (Below.refl _ _)
        simp [execOp, Act.eval, h0, h1, k0, cu_guard, go_sem]
      · intro a w1 hR hsz hs      -- 32: slot 159
        obtain ⟨h0, h1, h2, _⟩ := hs
        have h0 : a.tmps.getD 151 undef = .bool true := h0
        have h1 : a.tmps.getD 158 undef = .bool true := h1
        have h2 : a.tmps.getD 148 undef = .bool true := h2
        refine opg_run rfl rfl rfl (by rw [hsz]; decide) h2 (v := .bool true) (w' := w1) ?_ rfl (Below.refl _ _)
        simp [execOp, Act.eval, h0, h1, go_sem]
      · intro a w1 hR hsz hs      -- 33: slot 160
        obtain ⟨h0, h1, _⟩ := hs
        have h0 : a.tmps.getD 159 undef = .bool true := h0
        have h1 : a.tmps.getD 148 undef = .bool true := h1
        refine opg_run rfl rfl rfl (by rw [hsz]; decide) h1 (v := .bool true) (w' := w1) ?_ rfl (Below.refl _ _)
        simp [execOp, Act.eval, h0, go_sem]
      · intro a w1 hR hsz hs      -- 34: slot 161
        obtain ⟨h0, h1, _⟩ := hs
        have h0 : a.tmps.getD 25 undef = .int .i64 (i : Nat) := h0
        have h1 : a.tmps.getD 160 undef = .bool true := h1
        exact opg_skip rfl rfl rfl (by rw [hsz]; decide) h1 rfl rfl
      · intro a w1 hR hsz hs      -- 35: slot 162
        obtain ⟨h0, h1, _⟩ := hs
        have h0 : a.tmps.getD 161 undef = undef := h0
        have h1 : a.tmps.getD 160 undef = .bool true := h1
        exact opg_skip rfl rfl rfl (by rw [hsz]; decide) h1 rfl rfl
      · intro a w1 hR hsz hs      -- 36: slot 163
        obtain ⟨h0, h1, _⟩ := hs
        have h0 : a.tmps.getD 162 undef = undef := h0
        have h1 : a.tmps.getD 160 undef = .bool true := h1
        exact opg_skip rfl rfl rfl (by rw [hsz]; decide) h1 rfl rfl
      · intro a w1 hR hsz hs      -- 37: slot 164
        obtain ⟨h0, h1, _⟩ := hs
        have h0 : a.tmps.getD 23 undef = .pointer (some ⟨p23, 0, none⟩) := h0
        have h1 : a.tmps.getD 163 undef = undef := h1
        exact opg_skipU rfl rfl rfl (by rw [hsz]; decide) h1 rfl
      · intro a w1 hR hsz hs      -- 38: slot 165
        obtain ⟨h0, _⟩ := hs
        have h0 : a.tmps.getD 163 undef = undef := h0
        exact opg_skipU rfl rfl rfl (by rw [hsz]; decide) h0 rfl
      · intro a w1 hR hsz hs      -- 39: slot 166
        obtain ⟨h0, h1, h2, _⟩ := hs
        have h0 : a.tmps.getD 164 undef = undef := h0
        have h1 : a.tmps.getD 165 undef = undef := h1
        have h2 : a.tmps.getD 163 undef = undef := h2
        exact opg_skipU rfl rfl rfl (by rw [hsz]; decide) h2 rfl
      · intro a w1 hR hsz hs      -- 40: slot 167
        obtain ⟨h0, h1, h2, _⟩ := hs
        have h0 : a.tmps.getD 163 undef = undef := h0
        have h1 : a.tmps.getD 166 undef = undef := h1
        have h2 : a.tmps.getD 160 undef = .bool true := h2
        exact opg_skip rfl rfl rfl (by rw [hsz]; decide) h2 rfl rfl
      · intro a w1 hR hsz hs      -- 41: slot 168
        obtain ⟨h0, h1, h2, _⟩ := hs
        have h0 : a.tmps.getD 160 undef = .bool true := h0
        have h1 : a.tmps.getD 167 undef = undef := h1
        have h2 : a.tmps.getD 148 undef = .bool true := h2
        refine opg_run rfl rfl rfl (by rw [hsz]; decide) h2 (v := Value.bool true) (w' := w1) ?_ rfl (Below.refl _ _)
        simp [execOp, Act.eval, h0, go_sem]
      · intro a w1 hR hsz hs      -- 42: slot 169
        obtain ⟨h0, h1, _⟩ := hs
        have h0 : a.tmps.getD 148 undef = .bool true := h0
        have h1 : a.tmps.getD 168 undef = Value.bool true := h1
        refine op_run rfl rfl (v := Value.bool true) (w' := w1) ?_ rfl (Below.refl _ _)
        simp [execOp, Act.eval, h0, h1, go_sem]
      · intro a w1 hR hsz hs      -- 43: slot 170
        obtain ⟨h0, _⟩ := hs
        have h0 : a.tmps.getD 169 undef = Value.bool true := h0
        refine op_run rfl rfl (v := Value.bool true) (w' := w1) ?_ rfl (Below.refl _ _)
        simp [execOp, Act.eval, h0, go_sem]
      · intro a w1 hR hsz hs      -- 44: slot 171
        obtain ⟨h0, _⟩ := hs
        have h0 : a.tmps.getD 170 undef = Value.bool true := h0
        refine opg_call rfl rfl rfl (by rw [hsz]; decide) h0 (f := 8) (args := #[]) (by simp [execOp, Act.eval, resolve, go_sem]) ?_
        exact calls_c (knownU_any w1)
      · intro a w1 hR hsz hs      -- 45: slot 172
        obtain ⟨h0, h1, _⟩ := hs
        have h0 : a.tmps.getD 170 undef = Value.bool true := h0
        have h1 : a.tmps.getD 171 undef = .bool true := h1
        refine op_run rfl rfl (v := .bool true) (w' := w1) ?_ rfl (Below.refl _ _)
        simp [execOp, Act.eval, h0, h1, go_sem]
      · intro a w1 hR hsz hs      -- 46: slot 6
        obtain ⟨h0, _⟩ := hs
        have h0 : a.tmps.getD 172 undef = .bool true := h0
        refine op_run rfl rfl (v := .bool true) (w' := w1) ?_ rfl (Below.refl _ _)
        simp [execOp, Act.eval, h0, go_sem]
    · intro f w1 hR hv
      have e6 : f 6 = .bool true := hv 46 _ 6 rfl rfl
      clear hv
      try simp only [Exit.then]
      simp only [putAll, List.foldl_cons, List.foldl_nil, Option.getD_some, Act.put, List.setIfInBounds_toArray, List.set_cons_succ, List.set_cons_zero]
      go_wp2_with fail
      go_ret
      exact ⟨congrArg Ending.returned e6, HB9.out.trans (hR.mono HB9.out.size)⟩
    -- END Y
  | none =>
    rw [findU_gone hpl] at HFA
    rw [hpl] at HFB
    simp only [numU] at HFB
    have HFA := Lib.hid HFA
    clear hpl
    go_wp2_with fail
    go_at_call 19
    refine HFA.out.mono ?_
    rintro e w13 ⟨rfl, hb13⟩
    go_upto_region 14 with fail
    have hba : Below w13.heap.size w13 (w13.alloc (.cells #[.int .i64 0, .int .i64 0, .bool false] 39)) := (Below.refl _ _).alloc (Nat.le_refl _) _
    have HW14 := Lib.hid (hb13.trans (hba.mono hb13.size))
    have HB9 := Lib.hid (HB11.out.trans (HW14.out.mono HB11.out.size))
    have HX9 := Lib.hid (RecAt.new w13 #[.int .i64 0, .int .i64 0, .bool false] 39)
    clear hb13 hba x0 x1 x2 x3
    generalize (w13.alloc (.cells #[.int .i64 0, .int .i64 0, .bool false] 39)) = w14 at *
    generalize w13.heap.size = p23 at *
    have HXA := Lib.hid (HX11.out.later HW14.out)
    obtain ⟨x0, x1, x2, x3⟩ := HXA.out.c4U
    have HFB2 := Lib.hid (HFB.out w14 HB9.out)
    go_wp2_with fail
    refine HFB2.out.mono ?_
    rintro e w15 ⟨rfl, rfl⟩
    have HR1 := Lib.hid (fun W (h : Below w14.heap.size w14 W) => HR1.out W (HB9.out.trans (h.mono HB9.out.size)))
    have HR2 := Lib.hid (fun W (h : Below w14.heap.size w14 W) => HR2.out W (HB9.out.trans (h.mono HB9.out.size)))
    clear x0 x1 x2 x3 HFB HFB2 HFA
    go_upto_region 15 with fail
    -- REG N
    refine wp_region_tab (L := [cV (.slice a0 n0 c0), cV (.bool RR), cV (.slice a0 n0 c0), cV (.bool RR), cV (.bool true), cV (.bool true), cV (.int .i64 nS), cV (.int .i64 nS), cV (.bool true), cV (.bool true), cV (.bool true), cV (.bool ok), cV (.bool ok), cV (.bool true), cV (.bool true), cV (.bool true), cV (.bool false), cV (.int .i64 (-1)), cV (.bool false), cV (.bool true), cV (.bool true), cV (.bool true), cV (.int .i64 (-1)), cV (.bool false), cV (.bool false), cV (undef), cV (undef), cV (undef), cV (undef), cV (undef), cV (undef), cV (undef), cV (Value.bool false), cV (Value.bool false), cV (.int .i64 (-1)), cV (.bool true), cV (.bool true), cV (.agg #[.int .i64 0, .int .i64 0, .bool false]), cV (.agg #[.int .i64 0, .int .i64 0, .bool false]), cV (.bool true), cV (.bool true), cV (.bool true), cV (.bool true), cV (.bool true), cV (.bool true), cV (.bool true), cV (.bool true)]) [[(0, none)], [(127, some 0)], [(0, none)], [(129, some 2)], [(128, some 1), (130, some 3)], [(131, some 4)], [(19, none), (132, some 5)], [(21, none), (132, some 5)], [(133, some 6), (134, some 7), (132, some 5)], [(132, some 5), (135, some 8)], [(136, some 9)], [(20, none), (137, some 10)], [(22, none), (137, some 10)], [(138, some 11), (139, some 12), (137, some 10)], [(137, some 10), (140, some 13)], [(141, some 14)], [(24, none), (142, some 15)], [(25, none), (142, some 15)], [(144, some 17), (142, some 15)], [(143, some 16), (145, some 18), (142, some 15)], [(142, some 15), (146, some 19)], [(147, some 20)], [(25, none), (148, some 21)], [(149, some 22), (148, some 21)], [(150, some 23), (148, some 21)], [(23, none), (151, some 24)], [(0, none), (151, some 24)], [(25, none), (151, some 24)], [(154, some 27), (151, some 24)], [(153, some 26), (155, some 28), (151, some 24)], [(156, some 29), (151, some 24)], [(152, some 25), (157, some 30), (151, some 24)], [(151, some 24), (158, some 31), (148, some 21)], [(159, some 32), (148, some 21)], [(25, none), (160, some 33)], [(161, some 34), (160, some 33)], [(162, some 35), (160, some 33)], [(23, none), (163, some 36)], [(163, some 36)], [(164, some 37), (165, some 38), (163, some 36)], [(163, some 36), (166, some 39), (160, some 33)], [(160, some 33), (167, some 40), (148, some 21)], [(148, some 21), (168, some 41)], [(169, some 42)], [(170, some 43)], [(170, some 43), (171, some 44)], [(172, some 45)]] 47 173 (by kernel_rfl) rfl rfl (by kernel_rfl) (by kernel_rfl) ?_ ?_
    · show ∀ i, i < 47 → _
      iterate 47 (refine fls ?_ ?_)
      · exact fl0
      · intro a w1 hR hsz hs      -- 0: slot 127
        obtain ⟨h0, _⟩ := hs
        have h0 : a.tmps.getD 0 undef = .slice a0 n0 c0 := h0
        refine op_run rfl rfl (v := .slice a0 n0 c0) (w' := w1) ?_ rfl (Below.refl _ _)
        simp [execOp, Act.eval, h0, go_sem]
      · intro a w1 hR hsz hs      -- 1: slot 128
        obtain ⟨h0, _⟩ := hs
        have h0 : a.tmps.getD 127 undef = .slice a0 n0 c0 := h0
        refine op_call rfl rfl (f := 21) (args := #[.slice a0 n0 c0]) (by simp [execOp, Act.eval, resolve, h0, go_sem]) ?_
        exact calls_c (HR1.out w1 hR)
      · intro a w1 hR hsz hs      -- 2: slot 129
        obtain ⟨h0, _⟩ := hs
        have h0 : a.tmps.getD 0 undef = .slice a0 n0 c0 := h0
        refine op_run rfl rfl (v := .slice a0 n0 c0) (w' := w1) ?_ rfl (Below.refl _ _)
        simp [execOp, Act.eval, h0, go_sem]
      · intro a w1 hR hsz hs      -- 3: slot 130
        obtain ⟨h0, _⟩ := hs
        have h0 : a.tmps.getD 129 undef = .slice a0 n0 c0 := h0
        refine op_call rfl rfl (f := 22) (args := #[.slice a0 n0 c0]) (by simp [execOp, Act.eval, resolve, h0, go_sem]) ?_
        exact calls_c (HR2.out w1 hR)
      · intro a w1 hR hsz hs      -- 4: slot 131
        obtain ⟨h0, h1, _⟩ := hs
        have h0 : a.tmps.getD 128 undef = .bool RR := h0
        have h1 : a.tmps.getD 130 undef = .bool RR := h1
        refine op_run rfl rfl (v := .bool true) (w' := w1) ?_ rfl (Below.refl _ _)
        simp [execOp, Act.eval, h0, h1, go_sem]
      · intro a w1 hR hsz hs      -- 5: slot 132
        obtain ⟨h0, _⟩ := hs
        have h0 : a.tmps.getD 131 undef = .bool true := h0
        refine op_run rfl rfl (v := .bool true) (w' := w1) ?_ rfl (Below.refl _ _)
        simp [execOp, Act.eval, h0, go_sem]
      · intro a w1 hR hsz hs      -- 6: slot 133
        obtain ⟨h0, h1, _⟩ := hs
        have h0 : a.tmps.getD 19 undef = .int .i64 nS := h0
        have h1 : a.tmps.getD 132 undef = .bool true := h1
        refine opg_run rfl rfl rfl (by rw [hsz]; decide) h1 (v := .int .i64 nS) (w' := w1) ?_ rfl (Below.refl _ _)
        simp [execOp, Act.eval, h0, go_sem]
      · intro a w1 hR hsz hs      -- 7: slot 134
        obtain ⟨h0, h1, _⟩ := hs
        have h0 : a.tmps.getD 21 undef = .int .i64 nS := h0
        have h1 : a.tmps.getD 132 undef = .bool true := h1
        refine opg_run rfl rfl rfl (by rw [hsz]; decide) h1 (v := .int .i64 nS) (w' := w1) ?_ rfl (Below.refl _ _)
        simp [execOp, Act.eval, h0, go_sem]
      · intro a w1 hR hsz hs      -- 8: slot 135
        obtain ⟨h0, h1, h2, _⟩ := hs
        have h0 : a.tmps.getD 133 undef = .int .i64 nS := h0
        have h1 : a.tmps.getD 134 undef = .int .i64 nS := h1
        have h2 : a.tmps.getD 132 undef = .bool true := h2
        refine opg_run rfl rfl rfl (by rw [hsz]; decide) h2 (v := .bool true) (w' := w1) ?_ rfl (Below.refl _ _)
        simp [execOp, Act.eval, h0, h1, go_sem]
      · intro a w1 hR hsz hs      -- 9: slot 136
        obtain ⟨h0, h1, _⟩ := hs
        have h0 : a.tmps.getD 132 undef = .bool true := h0
        have h1 : a.tmps.getD 135 undef = .bool true := h1
        refine op_run rfl rfl (v := .bool true) (w' := w1) ?_ rfl (Below.refl _ _)
        simp [execOp, Act.eval, h0, h1, go_sem]
      · intro a w1 hR hsz hs      -- 10: slot 137
        obtain ⟨h0, _⟩ := hs
        have h0 : a.tmps.getD 136 undef = .bool true := h0
        refine op_run rfl rfl (v := .bool true) (w' := w1) ?_ rfl (Below.refl _ _)
        simp [execOp, Act.eval, h0, go_sem]
      · intro a w1 hR hsz hs      -- 11: slot 138
        obtain ⟨h0, h1, _⟩ := hs
        have h0 : a.tmps.getD 20 undef = .bool ok := h0
        have h1 : a.tmps.getD 137 undef = .bool true := h1
        refine opg_run rfl rfl rfl (by rw [hsz]; decide) h1 (v := .bool ok) (w' := w1) ?_ rfl (Below.refl _ _)
        simp [execOp, Act.eval, h0, go_sem]
      · intro a w1 hR hsz hs      -- 12: slot 139
        obtain ⟨h0, h1, _⟩ := hs
        have h0 : a.tmps.getD 22 undef = .bool ok := h0
        have h1 : a.tmps.getD 137 undef = .bool true := h1
        refine opg_run rfl rfl rfl (by rw [hsz]; decide) h1 (v := .bool ok) (w' := w1) ?_ rfl (Below.refl _ _)
        simp [execOp, Act.eval, h0, go_sem]
      · intro a w1 hR hsz hs      -- 13: slot 140
        obtain ⟨h0, h1, h2, _⟩ := hs
        have h0 : a.tmps.getD 138 undef = .bool ok := h0
        have h1 : a.tmps.getD 139 undef = .bool ok := h1
        have h2 : a.tmps.getD 137 undef = .bool true := h2
        refine opg_run rfl rfl rfl (by rw [hsz]; decide) h2 (v := .bool true) (w' := w1) ?_ rfl (Below.refl _ _)
        simp [execOp, Act.eval, h0, h1, go_sem]
      · intro a w1 hR hsz hs      -- 14: slot 141
        obtain ⟨h0, h1, _⟩ := hs
        have h0 : a.tmps.getD 137 undef = .bool true := h0
        have h1 : a.tmps.getD 140 undef = .bool true := h1
        refine op_run rfl rfl (v := .bool true) (w' := w1) ?_ rfl (Below.refl _ _)
        simp [execOp, Act.eval, h0, h1, go_sem]
      · intro a w1 hR hsz hs      -- 15: slot 142
        obtain ⟨h0, _⟩ := hs
        have h0 : a.tmps.getD 141 undef = .bool true := h0
        refine op_run rfl rfl (v := .bool true) (w' := w1) ?_ rfl (Below.refl _ _)
        simp [execOp, Act.eval, h0, go_sem]
      · intro a w1 hR hsz hs      -- 16: slot 143
        obtain ⟨h0, h1, _⟩ := hs
        have h0 : a.tmps.getD 24 undef = .bool false := h0
        have h1 : a.tmps.getD 142 undef = .bool true := h1
        refine opg_run rfl rfl rfl (by rw [hsz]; decide) h1 (v := .bool false) (w' := w1) ?_ rfl (Below.refl _ _)
        simp [execOp, Act.eval, h0, go_sem]
      · intro a w1 hR hsz hs      -- 17: slot 144
        obtain ⟨h0, h1, _⟩ := hs
        have h0 : a.tmps.getD 25 undef = .int .i64 (-1) := h0
        have h1 : a.tmps.getD 142 undef = .bool true := h1
        refine opg_run rfl rfl rfl (by rw [hsz]; decide) h1 (v := .int .i64 (-1)) (w' := w1) ?_ rfl (Below.refl _ _)
        simp [execOp, Act.eval, h0, go_sem]
      · intro a w1 hR hsz hs      -- 18: slot 145
        obtain ⟨h0, h1, _⟩ := hs
        have h0 : a.tmps.getD 144 undef = .int .i64 (-1) := h0
        have h1 : a.tmps.getD 142 undef = .bool true := h1
        refine opg_run rfl rfl rfl (by rw [hsz]; decide) h1 (v := .bool false) (w' := w1) ?_ rfl (Below.refl _ _)
        simp [execOp, Act.eval, h0, go_sem]
      · intro a w1 hR hsz hs      -- 19: slot 146
        obtain ⟨h0, h1, h2, _⟩ := hs
        have h0 : a.tmps.getD 143 undef = .bool false := h0
        have h1 : a.tmps.getD 145 undef = .bool false := h1
        have h2 : a.tmps.getD 142 undef = .bool true := h2
        refine opg_run rfl rfl rfl (by rw [hsz]; decide) h2 (v := .bool true) (w' := w1) ?_ rfl (Below.refl _ _)
        simp [execOp, Act.eval, h0, h1, go_sem]
      · intro a w1 hR hsz hs      -- 20: slot 147
        obtain ⟨h0, h1, _⟩ := hs
        have h0 : a.tmps.getD 142 undef = .bool true := h0
        have h1 : a.tmps.getD 146 undef = .bool true := h1
        refine op_run rfl rfl (v := .bool true) (w' := w1) ?_ rfl (Below.refl _ _)
        simp [execOp, Act.eval, h0, h1, go_sem]
      · intro a w1 hR hsz hs      -- 21: slot 148
        obtain ⟨h0, _⟩ := hs
        have h0 : a.tmps.getD 147 undef = .bool true := h0
        refine op_run rfl rfl (v := .bool true) (w' := w1) ?_ rfl (Below.refl _ _)
        simp [execOp, Act.eval, h0, go_sem]
      · intro a w1 hR hsz hs      -- 22: slot 149
        obtain ⟨h0, h1, _⟩ := hs
        have h0 : a.tmps.getD 25 undef = .int .i64 (-1) := h0
        have h1 : a.tmps.getD 148 undef = .bool true := h1
        refine opg_run rfl rfl rfl (by rw [hsz]; decide) h1 (v := .int .i64 (-1)) (w' := w1) ?_ rfl (Below.refl _ _)
        simp [execOp, Act.eval, h0, go_sem]
      · intro a w1 hR hsz hs      -- 23: slot 150
        obtain ⟨h0, h1, _⟩ := hs
        have h0 : a.tmps.getD 149 undef = .int .i64 (-1) := h0
        have h1 : a.tmps.getD 148 undef = .bool true := h1
        refine opg_run rfl rfl rfl (by rw [hsz]; decide) h1 (v := .bool false) (w' := w1) ?_ rfl (Below.refl _ _)
        simp [execOp, Act.eval, h0, go_sem]
      · intro a w1 hR hsz hs      -- 24: slot 151
        obtain ⟨h0, h1, _⟩ := hs
        have h0 : a.tmps.getD 150 undef = .bool false := h0
        have h1 : a.tmps.getD 148 undef = .bool true := h1
        refine opg_run rfl rfl rfl (by rw [hsz]; decide) h1 (v := .bool false) (w' := w1) ?_ rfl (Below.refl _ _)
        simp [execOp, Act.eval, h0, go_sem]
      · intro a w1 hR hsz hs      -- 25: slot 152
        obtain ⟨h0, h1, _⟩ := hs
        have h0 : a.tmps.getD 23 undef = .pointer (some ⟨p23, 0, none⟩) := h0
        have h1 : a.tmps.getD 151 undef = .bool false := h1
        exact opg_skip rfl rfl rfl (by rw [hsz]; decide) h1 rfl rfl
      · intro a w1 hR hsz hs      -- 26: slot 153
        obtain ⟨h0, h1, _⟩ := hs
        have h0 : a.tmps.getD 0 undef = .slice a0 n0 c0 := h0
        have h1 : a.tmps.getD 151 undef = .bool false := h1
        exact opg_skip rfl rfl rfl (by rw [hsz]; decide) h1 rfl rfl
      · intro a w1 hR hsz hs      -- 27: slot 154
        obtain ⟨h0, h1, _⟩ := hs
        have h0 : a.tmps.getD 25 undef = .int .i64 (-1) := h0
        have h1 : a.tmps.getD 151 undef = .bool false := h1
        exact opg_skip rfl rfl rfl (by rw [hsz]; decide) h1 rfl rfl
      · intro a w1 hR hsz hs      -- 28: slot 155
        obtain ⟨h0, h1, _⟩ := hs
        have h0 : a.tmps.getD 154 undef = undef := h0
        have h1 : a.tmps.getD 151 undef = .bool false := h1
        exact opg_skip rfl rfl rfl (by rw [hsz]; decide) h1 rfl rfl
      · intro a w1 hR hsz hs      -- 29: slot 156
        obtain ⟨h0, h1, h2, _⟩ := hs
        have h0 : a.tmps.getD 153 undef = undef := h0
        have h1 : a.tmps.getD 155 undef = undef := h1
        have h2 : a.tmps.getD 151 undef = .bool false := h2
        exact opg_skip rfl rfl rfl (by rw [hsz]; decide) h2 rfl rfl
      · intro a w1 hR hsz hs      -- 30: slot 157
        obtain ⟨h0, h1, _⟩ := hs
        have h0 : a.tmps.getD 156 undef = undef := h0
        have h1 : a.tmps.getD 151 undef = .bool false := h1
        exact opg_skip rfl rfl rfl (by rw [hsz]; decide) h1 rfl rfl
      · intro a w1 hR hsz hs      -- 31: slot 158
        obtain ⟨h0, h1, h2, _⟩ := hs
        have h0 : a.tmps.getD 152 undef = undef := h0
        have h1 : a.tmps.getD 157 undef = undef := h1
        have h2 : a.tmps.getD 151 undef = .bool false := h2
        exact opg_skip rfl rfl rfl (by rw [hsz]; decide) h2 rfl rfl
      · intro a w1 hR hsz hs      -- 32: slot 159
        obtain ⟨h0, h1, h2, _⟩ := hs
        have h0 : a.tmps.getD 151 undef = .bool false := h0
        have h1 : a.tmps.getD 158 undef = undef := h1
        have h2 : a.tmps.getD 148 undef = .bool true := h2
        refine opg_run rfl rfl rfl (by rw [hsz]; decide) h2 (v := Value.bool false) (w' := w1) ?_ rfl (Below.refl _ _)
        simp [execOp, Act.eval, h0, go_sem]
      · intro a w1 hR hsz hs      -- 33: slot 160
        obtain ⟨h0, h1, _⟩ := hs
        have h0 : a.tmps.getD 159 undef = Value.bool false := h0
        have h1 : a.tmps.getD 148 undef = .bool true := h1
        refine opg_run rfl rfl rfl (by rw [hsz]; decide) h1 (v := Value.bool false) (w' := w1) ?_ rfl (Below.refl _ _)
        simp [execOp, Act.eval, h0, go_sem]
      · intro a w1 hR hsz hs      -- 34: slot 161
        obtain ⟨h0, h1, _⟩ := hs
        have h0 : a.tmps.getD 25 undef = .int .i64 (-1) := h0
        have h1 : a.tmps.getD 160 undef = Value.bool false := h1
        refine opg_run rfl rfl rfl (by rw [hsz]; decide) h1 (v := .int .i64 (-1)) (w' := w1) ?_ rfl (Below.refl _ _)
        simp [execOp, Act.eval, h0, go_sem]
      · intro a w1 hR hsz hs      -- 35: slot 162
        obtain ⟨h0, h1, _⟩ := hs
        have h0 : a.tmps.getD 161 undef = .int .i64 (-1) := h0
        have h1 : a.tmps.getD 160 undef = Value.bool false := h1
        refine opg_run rfl rfl rfl (by rw [hsz]; decide) h1 (v := .bool true) (w' := w1) ?_ rfl (Below.refl _ _)
        simp [execOp, Act.eval, h0, go_sem]
      · intro a w1 hR hsz hs      -- 36: slot 163
        obtain ⟨h0, h1, _⟩ := hs
        have h0 : a.tmps.getD 162 undef = .bool true := h0
        have h1 : a.tmps.getD 160 undef = Value.bool false := h1
        refine opg_run rfl rfl rfl (by rw [hsz]; decide) h1 (v := .bool true) (w' := w1) ?_ rfl (Below.refl _ _)
        simp [execOp, Act.eval, h0, go_sem]
      · intro a w1 hR hsz hs      -- 37: slot 164
        obtain ⟨h0, h1, _⟩ := hs
        have h0 : a.tmps.getD 23 undef = .pointer (some ⟨p23, 0, none⟩) := h0
        have h1 : a.tmps.getD 163 undef = .bool true := h1
        obtain ⟨x0, x1, x2⟩ := (HX9.out.later hR).c3
        refine opg_run rfl rfl rfl (by rw [hsz]; decide) h1 (v := .agg #[.int .i64 0, .int .i64 0, .bool false]) (w' := w1) ?_ rfl (Below.refl _ _)
        simp [execOp, Act.eval, h0, x0, x1, x2, go_sem]
      · intro a w1 hR hsz hs      -- 38: slot 165
        obtain ⟨h0, _⟩ := hs
        have h0 : a.tmps.getD 163 undef = .bool true := h0
        refine opg_run rfl rfl rfl (by rw [hsz]; decide) h0 (v := .agg #[.int .i64 0, .int .i64 0, .bool false]) (w' := w1) ?_ rfl (Below.refl _ _)
        simp [execOp, Act.eval, go_sem]
      · intro a w1 hR hsz hs      -- 39: slot 166
        obtain ⟨h0, h1, h2, _⟩ := hs
        have h0 : a.tmps.getD 164 undef = .agg #[.int .i64 0, .int .i64 0, .bool false] := h0
        have h1 : a.tmps.getD 165 undef = .agg #[.int .i64 0, .int .i64 0, .bool false] := h1
        have h2 : a.tmps.getD 163 undef = .bool true := h2
        have k0 := cu_same w1 ⟨0, 0, false⟩
        refine opg_run rfl rfl rfl (by rw [hsz]; decide) h2 (v := .bool true) (w' := w1) ?_ rfl (Below.refl _ _)
        simp [execOp, Act.eval, h0, h1, k0, cu_guard, go_sem]
      · intro a w1 hR hsz hs      -- 40: slot 167
        obtain ⟨h0, h1, h2, _⟩ := hs
        have h0 : a.tmps.getD 163 undef = .bool true := h0
        have h1 : a.tmps.getD 166 undef = .bool true := h1
        have h2 : a.tmps.getD 160 undef = Value.bool false := h2
        refine opg_run rfl rfl rfl (by rw [hsz]; decide) h2 (v := .bool true) (w' := w1) ?_ rfl (Below.refl _ _)
        simp [execOp, Act.eval, h0, h1, go_sem]
      · intro a w1 hR hsz hs      -- 41: slot 168
        obtain ⟨h0, h1, h2, _⟩ := hs
        have h0 : a.tmps.getD 160 undef = Value.bool false := h0
        have h1 : a.tmps.getD 167 undef = .bool true := h1
        have h2 : a.tmps.getD 148 undef = .bool true := h2
        refine opg_run rfl rfl rfl (by rw [hsz]; decide) h2 (v := .bool true) (w' := w1) ?_ rfl (Below.refl _ _)
        simp [execOp, Act.eval, h0, h1, go_sem]
      · intro a w1 hR hsz hs      -- 42: slot 169
        obtain ⟨h0, h1, _⟩ := hs
        have h0 : a.tmps.getD 148 undef = .bool true := h0
        have h1 : a.tmps.getD 168 undef = .bool true := h1
        refine op_run rfl rfl (v := .bool true) (w' := w1) ?_ rfl (Below.refl _ _)
        simp [execOp, Act.eval, h0, h1, go_sem]
      · intro a w1 hR hsz hs      -- 43: slot 170
        obtain ⟨h0, _⟩ := hs
        have h0 : a.tmps.getD 169 undef = .bool true := h0
        refine op_run rfl rfl (v := .bool true) (w' := w1) ?_ rfl (Below.refl _ _)
        simp [execOp, Act.eval, h0, go_sem]
      · intro a w1 hR hsz hs      -- 44: slot 171
        obtain ⟨h0, _⟩ := hs
        have h0 : a.tmps.getD 170 undef = .bool true := h0
        refine opg_call rfl rfl rfl (by rw [hsz]; decide) h0 (f := 8) (args := #[]) (by simp [execOp, Act.eval, resolve, go_sem]) ?_
        exact calls_c (knownU_any w1)
      · intro a w1 hR hsz hs      -- 45: slot 172
        obtain ⟨h0, h1, _⟩ := hs
        have h0 : a.tmps.getD 170 undef = .bool true := h0
        have h1 : a.tmps.getD 171 undef = .bool true := h1
        refine op_run rfl rfl (v := .bool true) (w' := w1) ?_ rfl (Below.refl _ _)
        simp [execOp, Act.eval, h0, h1, go_sem]
      · intro a w1 hR hsz hs      -- 46: slot 6
        obtain ⟨h0, _⟩ := hs
        have h0 : a.tmps.getD 172 undef = .bool true := h0
        refine op_run rfl rfl (v := .bool true) (w' := w1) ?_ rfl (Below.refl _ _)
        simp [execOp, Act.eval, h0, go_sem]
    · intro f w1 hR hv
      have e6 : f 6 = .bool true := hv 46 _ 6 rfl rfl
      clear hv
      try simp only [Exit.then]
      simp only [putAll, List.foldl_cons, List.foldl_nil, Option.getD_some, Act.put, List.setIfInBounds_toArray, List.set_cons_succ, List.set_cons_zero]
      go_wp2_with fail
      go_ret
      exact ⟨congrArg Ending.returned e6, HB9.out.trans (hR.mono HB9.out.size)⟩
    -- END N
theorem clientTells_walk (a0 : Option Addr) (n0 c0 : Nat) (us : List Cu) (a1 : Option Addr) (n1 c1 : Nat) (p : List UInt8) (t : Ac) (w : World) (hr : CRow w a0 c0 us) (hn : us.length = n0) (hq : Row w a1 c1 p) (hqn : p.length = n1) (htb : t.B) :
    Calls Try.prog 3 #[.slice a0 n0 c0, .slice a1 n1 c1, .agg #[.int .i64 t.what, .int .i64 t.id, .int .i64 t.pos, .bool t.off]] w fun x w' => x = .returned (.bool true) ∧ Below w.heap.size w w' := by
  by_cases hb : 20 < n0 ∨ 200 < n1
  · exact clientTells_known a0 a1 n0 c0 n1 c1 t w hb
  · obtain ⟨tw, ti, tp, tf⟩ := t
    exact clientTells_main a0 a1 n0 c0 n1 c1 us p tw ti tp tf w hr hn (by omega) hq hqn (by omega) htb
end Go.Proofs.Ytcddbffeejijpaa
