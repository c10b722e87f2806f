/- Clients: calls as records; the document's own example. -/
import Derived.Test.YtcddbffeejijpaaCuI
import Derived.Test.YtcddbffeejijpaaCuD
namespace Go.Proofs.Ytcddbffeejijpaa
open Go.RowKit Go.Proofs
set_option linter.unusedVariables false
set_option linter.unusedSimpArgs false
set_option linter.unnecessarySimpa false

/-! ### a call -/
structure Ac where
  what : Int
  id : Int
  pos : Int
  off : Bool
def Ac.B (t : Ac) : Prop := W64 t.what ∧ W64 t.id ∧ W64 t.pos
def acV (t : Ac) : List Value := [.int .i64 t.what, .int .i64 t.id, .int .i64 t.pos, .bool t.off]
abbrev acT : RT Ac := ⟨acV, 4, Ac.B, 25, 45⟩
def AcE (cs : List Value) (t : Ac) : Prop := cs = acV t ∧ t.B
theorem opens_ac {w : World} : Opens w 25 AcE :=
  Opens.fields Try.underlying25 (by kernel_rfl : Try.prog.cellsOf 25 = 4) fun cs hl hf => by
    obtain ⟨a, ha, wa⟩ := hf 0 _ rfl _ _ (Opens.int (k := .i64) Try.underlying3)
    obtain ⟨b, hb, wb⟩ := hf 1 _ rfl _ _ (Opens.int (k := .i64) Try.underlying3)
    obtain ⟨c, hc, wc⟩ := hf 2 _ rfl _ _ (Opens.int (k := .i64) Try.underlying3)
    obtain ⟨d, hd⟩ := hf 3 _ rfl _ _ (Opens.bool Try.underlying4)
    refine ⟨⟨a, b, c, d⟩, ?_, wf_i64 wa, wf_i64 wb, wf_i64 wc⟩
    match cs, hl with
    | [x, y, z, u], _ =>
      have h1 : Try.prog.cellsOf 3 = 1 := by kernel_rfl
      have h2 : Try.prog.cellsOf 4 = 1 := by kernel_rfl
      simp [h1, h2, BoolE] at ha hb hc hd
      simp [acV, ha, hb, hc, hd]
theorem RowE.acrow {w : World} {a : Option Addr} {cap : Nat} {ts : List Ac} (h : RowE w 4 AcE a cap ts) : GRow acT w a cap ts := h.grow rfl (by decide) (fun t => rfl) fun cs t h => h
theorem GRow.a4 {w : World} {a : Option Addr} {cap : Nat} {ts : List Ac} (h : GRow acT w a cap ts) {i : Nat} {t : Ac} (he : ts[i]? = some t) :
    ∃ b off, a = some ⟨b, off, .none⟩ ∧ w.cell? ⟨b, off + i * 4, .none⟩ = some (.int .i64 t.what) ∧ w.cell? ⟨b, off + i * 4 + 1, .none⟩ = some (.int .i64 t.id) ∧ w.cell? ⟨b, off + i * 4 + 2, .none⟩ = some (.int .i64 t.pos) ∧ w.cell? ⟨b, off + i * 4 + 3, .none⟩ = some (.bool t.off) := by
  obtain ⟨b, off, ha, c⟩ := h.at he
  exact ⟨b, off, ha, c 0 _ rfl, c 1 _ rfl, c 2 _ rfl, c 3 _ rfl⟩
def kindA (what : Int) : Nat := if what = 0 then 0 else if what = 1 then 1 else if what = 2 then 2 else 3
theorem kindA_le (what : Int) : kindA what ≤ 3 := by unfold kindA; split <;> (try split) <;> (try split) <;> omega
theorem RecAt.c4U {w : World} {x : Nat} {a b c d : Value} {t : TypeId} (h : RecAt w x #[a, b, c, d] t) : w.cell? ⟨x, 0, .none⟩ = some a ∧ w.cell? ⟨x, 1, .none⟩ = some b ∧ w.cell? ⟨x, 2, .none⟩ = some c ∧ w.cell? ⟨x, 3, .none⟩ = some d :=
  ⟨h.cell rfl, h.cell rfl, h.cell rfl, h.cell rfl⟩
set_option maxHeartbeats 1600000 in
theorem kind_any (t : Ac) (w : World) : Calls Try.prog 15 #[.agg #[.int .i64 t.what, .int .i64 t.id, .int .i64 t.pos, .bool t.off]] w fun e w' => e = .returned (.int .i64 (kindA t.what : Nat)) ∧ Below w.heap.size w w' := by
  obtain ⟨x, i, p, o⟩ := t
  have HB := Lib.hid ((Below.refl w.heap.size w).alloc (Nat.le_refl _) (.cells #[.int .i64 x, .int .i64 i, .int .i64 p, .bool o] 25))
  rcases (show x < 0 ∨ (0 ≤ x ∧ 3 < x) ∨ x = 0 ∨ x = 1 ∨ x = 2 ∨ x = 3 by omega) with h | h | rfl | rfl | rfl | rfl
  · have HF : Hid (kindA x = 3) := Lib.hid (by unfold kindA; rw [if_neg (by omega), if_neg (by omega), if_neg (by omega)])
    go_enter Try.func15, Try.ntmps15
    go_wp2_with fail
    go_ret
    exact ⟨ret_int (by rw [HF.out]; rfl), HB.out⟩
  · have HF : Hid (kindA x = 3) := Lib.hid (by unfold kindA; rw [if_neg (by omega), if_neg (by omega), if_neg (by omega)])
    obtain ⟨h1, h2⟩ := h
    go_enter Try.func15, Try.ntmps15
    go_wp2_with fail
    go_ret
    exact ⟨ret_int (by rw [HF.out]; rfl), HB.out⟩
  all_goals
    go_enter Try.func15, Try.ntmps15
    go_wp2_with fail
    go_ret
    exact ⟨ret_int rfl, HB.out⟩
theorem UAct.back {r : List Cu × Int} {w w1 w' : World} {e : Ending} (h : UAct r w1 e w') (hb : Below w.heap.size w w1) : UAct r w e w' := by
  obtain ⟨v, h1, h2⟩ := h
  exact ⟨v, h1, h2.back hb⟩
set_option maxRecDepth 20000 in
set_option maxHeartbeats 3200000 in
theorem one_any (ad : Option Addr) (n c : Nat) (ts : List Cu) (t : Ac) (w : World) (hr : CRow w ad c ts) (hn : ts.length = n) (ht : t.B) :
    Calls Try.prog 13 #[.slice ad n c, .agg #[.int .i64 t.what, .int .i64 t.id, .int .i64 t.pos, .bool t.off]] w (UAct (actU ts (kindA t.what) t.id t.pos t.off) w) := by
  obtain ⟨x, i, p, o⟩ := t
  have hb : Below w.heap.size w (w.alloc (.cells #[.int .i64 x, .int .i64 i, .int .i64 p, .bool o] 25)) := (Below.refl w.heap.size w).alloc (Nat.le_refl _) _
  have HB := Lib.hid hb
  have HR := Lib.hid (hr.later hb)
  have HN := Lib.hid hn
  have HT := Lib.hid ht
  clear hr hn ht hb
  rcases (show x = 0 ∨ x = 1 ∨ x = 2 ∨ (x ≠ 0 ∧ x ≠ 1 ∧ x ≠ 2) by omega) with rfl | rfl | rfl | ⟨h0, h1, h2⟩
  · go_enter Try.func13, Try.ntmps13
    go_wp2_with (go_at_call 25; refine (uadd_any ad n c ts i p o _ HR.out HN.out HT.out.2.1 HT.out.2.2).mono ?_; rintro e w1 ⟨v, rfl, o1⟩; have HO := Lib.hid (o1.back HB.out); clear o1)
    go_ret2
    exact ⟨_, rfl, HO.out⟩
  · go_enter Try.func13, Try.ntmps13
    go_wp2_with (go_at_call 26; refine (udrop_any ad n c ts i p o _ HR.out HN.out).mono ?_; rintro e w1 ⟨v, rfl, o1⟩; have HO := Lib.hid (o1.back HB.out); clear o1)
    go_ret2
    exact ⟨_, rfl, HO.out⟩
  · go_enter Try.func13, Try.ntmps13
    go_wp2_with (go_at_call 23; refine (ucommit_any ad n c ts i p o _ HR.out HN.out HT.out.2.2).mono ?_; rintro e w1 ⟨v, rfl, o1⟩; have HO := Lib.hid (o1.back HB.out); clear o1)
    go_ret2
    exact ⟨_, rfl, HO.out⟩
  · have hk : kindA x = 3 := by unfold kindA; rw [if_neg h0, if_neg h1, if_neg h2]
    simp only [hk]
    have q0 : (x == 0) = false := by simpa using h0
    have q1 : (x == 1) = false := by simpa using h1
    have q2 : (x == 2) = false := by simpa using h2
    clear h0 h1 h2 hk
    go_enter Try.func13, Try.ntmps13
    go_wp2_with (go_at_call 24; refine (uturn_any ad n c ts i p o _ HR.out HN.out).mono ?_; rintro e w1 ⟨v, rfl, o1⟩; have HO := Lib.hid (o1.back HB.out); clear o1)
    go_ret2
    exact ⟨_, rfl, HO.out⟩

/-! ### the example -/
def kCu : Cu := ⟨2, 5, false⟩
theorem ku_add (b : Bool) : actU [] 0 2 5 b = ([kCu], 0) := by
  rw [actU_in (by rw [rightU_iff.2 cuOk_nil]; decide)]
  rfl
theorem ku_drop (p : Int) (b : Bool) : actU [] 1 1 p b = ([], 4) := by
  rw [actU_in (by rw [rightU_iff.2 cuOk_nil, inU_one]; decide)]
  rfl
theorem ku_eql (w : World) : (binOp .eql 39 (.agg #[.int .i64 2, .int .i64 5, .bool false]) (.agg #[.int .i64 2, .int .i64 5, .bool false])).run Try.prog w = .ok (.bool true) w := by
  have := cu_eql w kCu kCu
  simpa [kCu] using this
theorem slow_k : slowU [kCu] = (5, true) := by decide
theorem slow_nil : slowU [] = (0, false) := rfl
set_option maxRecDepth 20000 in
set_option maxHeartbeats 6400000 in
theorem knownU_any (w : World) : Calls Try.prog 8 #[] w fun e w' => e = .returned (.bool true) ∧ Below w.heap.size w w' := by
  have HA := Lib.hid (uadd_any none 0 0 [] 2 5 false w (GRow.nil _ w) rfl (by unfold W64; omega) (by unfold W64; omega))
  rw [ku_add] at HA
  go_enter Try.func8, Try.ntmps8
  go_wp2_with fail
  refine HA.out.mono ?_
  rintro e w1 ⟨v1, rfl, o1⟩
  simp only at o1
  obtain ⟨a1, c1, rfl, r1⟩ := o1.row_n cuOk (n := 1) rfl
  have HR := Lib.hid r1
  have HB1 := Lib.hid o1.below
  have hc1 : c1 ≤ 9223372036854775807 := by have := r1.2.1; unfold maxLen at this; omega
  have hc2 : 1 ≤ c1 := r1.1
  clear o1 r1 HA
  go_wp2_with fail
  refine (uslow_any a1 1 c1 [kCu] w1 HR.out rfl).mono ?_
  rw [slow_k]
  rintro e w2 ⟨rfl, hb2⟩
  have HB2 := Lib.hid (HB1.out.trans (hb2.mono HB1.out.size))
  have HR2 := Lib.hid (HR.out.later hb2)
  clear hb2 HR
  go_wp2_with fail
  refine (uslow_any none 0 0 [] w2 (GRow.nil _ w2) rfl).mono ?_
  rw [slow_nil]
  rintro e w3 ⟨rfl, hb3⟩
  have HB3 := Lib.hid (HB2.out.trans (hb3.mono HB2.out.size))
  have HR3 := Lib.hid (HR2.out.later hb3)
  clear hb3 HR2
  go_wp2_with fail
  refine (udrop_any none 0 0 [] 1 0 false w3 (GRow.nil _ w3) rfl).mono ?_
  rw [ku_drop]
  rintro e w4 ⟨v4, rfl, o4⟩
  have HB4 := Lib.hid (HB3.out.trans (o4.below.mono HB3.out.size))
  have HR4 := Lib.hid (HR3.out.later o4.below)
  clear o4 HR3
  obtain ⟨b0, o0, rfl, p0, p1, p2⟩ := HR4.out.c3 (i := 0) rfl
  simp only [kCu, Nat.zero_mul, Nat.add_zero] at p0 p1 p2
  have hq := ku_eql
  go_wp2_with fail
  go_ret
  exact ⟨ret_bool rfl, HB4.out⟩
end Go.Proofs.Ytcddbffeejijpaa
