/- Records of an image: rows of marks; names; shapes. | Records of an image: what is seen, how many holds, do they rise, are names apart; the program's. | Records of an image: may one be? The program's. | Records of an image: are two marks, two rows of marks, two records alike? -/
import Derived.Test.YtiahifpbofkimaaGB
import Derived.Test.YtiahifpbofkimaaGRow
import Derived.Test.YtiahifpbofkimaaEv
import Derived.Test.YtiahifpbofkimaaGE
import Derived.Test.YtiahifpbofkimaaCu
import Derived.Lib.Strings
import Derived.Deep.RegionWith
import Derived.Deep.DeepCutAuto
import Derived.Laws.StructEq
namespace Go.Proofs.Ytiahifpbofkimaa
open Go.RowKit Go.Proofs
set_option linter.unusedVariables false
set_option linter.unusedSimpArgs false
set_option linter.unnecessarySimpa false

def Mk.B (t : Mk) : Prop := W64 t.id ∧ W64 t.size ∧ t.name.size ≤ 9223372036854775807
def mkV (t : Mk) : List Value := [.int .i64 t.id, .string t.name, .int .i64 t.size, .bool t.gone]
abbrev mkT : RT Mk := ⟨mkV, 4, Mk.B, 46, 24⟩
theorem info_mk : (Try.prog.info? 46).map (fun i => (i.zero, i.size, i.bytes)) = some (some (.agg #[.int .i64 0, .string ⟨#[]⟩, .int .i64 0, .bool false]), 4, 40) := by kernel_rfl
theorem mkOk : (mkT).Ok := RT.Ok.of (fun t => rfl) (fun t u h => by
    simp only [mkV, List.mem_cons, List.not_mem_nil, or_false] at h
    rcases h with rfl | rfl | rfl | rfl <;> rfl) (by decide) Try.underlying24 info_mk rfl (by decide) rfl
def MkE (cs : List Value) (t : Mk) : Prop := cs = mkV t ∧ t.B
set_option maxRecDepth 20000 in
theorem opens_mk {w : World} : Opens w 46 MkE :=
  Opens.fields Try.underlying46 (by kernel_rfl : Try.prog.cellsOf 46 = 4) fun cs hl hf => by
    obtain ⟨a, ha, wa⟩ := hf 0 _ rfl _ _ (Opens.int (k := .i64) Try.underlying3)
    obtain ⟨b, hb, wb⟩ := hf 1 _ rfl _ _ (Opens.str Try.underlying9)
    obtain ⟨c, hc, wc⟩ := hf 2 _ rfl _ _ (Opens.int (k := .i64) Try.underlying3)
    obtain ⟨d, hd⟩ := hf 3 _ rfl _ _ (Opens.bool Try.underlying4)
    refine ⟨⟨a, ⟨b.toArray⟩, c, d⟩, ?_, wf_i64 wa, wf_i64 wc, by unfold maxLen at wb; simpa [ByteArray.size] using (show b.length ≤ 9223372036854775807 by omega)⟩
    match cs, hl with
    | [x, y, z, u], _ =>
      have h1 : Try.prog.cellsOf 3 = 1 := by kernel_rfl
      have h2 : Try.prog.cellsOf 4 = 1 := by kernel_rfl
      have h3 : Try.prog.cellsOf 9 = 1 := by kernel_rfl
      simp [h1, h2, h3, BoolE] at ha hb hc hd
      simp [mkV, ha, hb, hc, hd]
abbrev MRow := GRow mkT
abbrev MOwn := GOwn mkT
theorem RowE.mrow {w : World} {a : Option Addr} {cap : Nat} {ts : List Mk} (h : RowE w 4 MkE a cap ts) : MRow w a cap ts := h.grow rfl (by decide) (fun t => rfl) fun cs t h => h
theorem GRow.c4 {w : World} {a : Option Addr} {cap : Nat} {ts : List Mk} (h : GRow mkT w a cap ts) {i : Nat} {t : Mk} (he : ts[i]? = some t) :
    ∃ b off, a = some ⟨b, off, .none⟩ ∧ w.cell? ⟨b, off + i * 4, .none⟩ = some (.int .i64 t.id) ∧ w.cell? ⟨b, off + i * 4 + 1, .none⟩ = some (.string t.name) ∧ w.cell? ⟨b, off + i * 4 + 2, .none⟩ = some (.int .i64 t.size) ∧ w.cell? ⟨b, off + i * 4 + 3, .none⟩ = some (.bool t.gone) := by
  obtain ⟨b, off, ha, c⟩ := h.at he
  exact ⟨b, off, ha, c 0 _ rfl, c 1 _ rfl, c 2 _ rfl, c 3 _ rfl⟩
theorem RecAt.c7 {w : World} {x : Nat} {a b c d e f g : Value} {t : TypeId} (h : RecAt w x #[a, b, c, d, e, f, g] t) : w.cell? ⟨x, 0, none⟩ = some a ∧ w.cell? ⟨x, 1, none⟩ = some b ∧ w.cell? ⟨x, 2, none⟩ = some c ∧ w.cell? ⟨x, 3, none⟩ = some d ∧ w.cell? ⟨x, 4, none⟩ = some e ∧ w.cell? ⟨x, 5, none⟩ = some f ∧ w.cell? ⟨x, 6, none⟩ = some g := ⟨h.cell rfl, h.cell rfl, h.cell rfl, h.cell rfl, h.cell rfl, h.cell rfl, h.cell rfl⟩
/-- A record as a value, its marks at a. -/
abbrev hdA (h : Hd) (a : Option Addr) (n c : Nat) : Value := .agg #[.int .i64 h.size, .int .i64 h.order, .int .i64 h.unit, .int .i64 h.count, .int .i64 h.next, .int .i64 h.seq, .slice a n c]
abbrev mkA (t : Mk) : Value := .agg #[.int .i64 t.id, .string t.name, .int .i64 t.size, .bool t.gone]

/-! ### names -/
theorem held_string (s : ByteArray) : heldL s.data.toList = (decide (1 ≤ s.size) && (s.extract 0 1).toList == [126]) := by
  rw [Lib.extract_toList, Lib.size_eq]
  cases h : s.data.toList with
  | nil => simp [heldL]
  | cons c r => by_cases e : c = 126 <;> simp [heldL, e]
theorem held_pos {s : ByteArray} (h : heldL s.data.toList = true) : 1 ≤ s.size := by
  rw [held_string] at h; simp at h; exact h.1
set_option maxHeartbeats 1600000 in
theorem slpre_any (s : ByteArray) (w : World) (hs : s.size ≤ 9223372036854775807) : Calls Try.prog 100 #[.string s, .string ⟨#[126]⟩] w fun e w' => e = .returned (.bool (heldL s.data.toList)) ∧ w = w' := by
  rw [held_string]
  by_cases h : 1 ≤ s.size
  · go_enter Try.func100, Try.ntmps100
    go_wp2_with fail
    go_ret
    exact ⟨ret_bool (by simp [h]), rfl⟩
  · go_enter Try.func100, Try.ntmps100
    go_wp2_with fail
    go_ret
    exact ⟨ret_bool (by simp [h]), rfl⟩
/-- What CutPrefix leaves. -/
def cutS (s : ByteArray) : ByteArray := if heldL s.data.toList then s.extract 1 s.size else s
theorem cutS_len (s : ByteArray) : (cutS s).size ≤ s.size := by
  unfold cutS
  split
  · simp [ByteArray.size_extract]
  · exact Nat.le_refl _
theorem cutS_mark (s : ByteArray) : nameOk (cutS s).data.toList = markL s.data.toList := by
  unfold cutS markL
  split
  · rw [Lib.extract_data, List.take_of_length_le (by rw [List.length_drop, ← Lib.size_eq]; omega), List.drop_one]
  · rfl
set_option maxHeartbeats 1600000 in
theorem slcut_any (s : ByteArray) (w : World) (hs : s.size ≤ 9223372036854775807) : Calls Try.prog 92 #[.string s, .string ⟨#[126]⟩] w fun e w' => e = .returned (.tuple #[.string (cutS s), .bool (heldL s.data.toList)]) ∧ w = w' := by
  have H := Lib.hid (slpre_any s w hs)
  cases h : heldL s.data.toList with
  | true =>
    rw [h] at H
    have hp := held_pos h
    have HC : Hid (cutS s = s.extract 1 s.size) := Lib.hid (by unfold cutS; rw [if_pos h])
    clear h
    go_enter Try.func92, Try.ntmps92
    go_wp2_with fail
    refine H.out.mono ?_
    rintro e w1 ⟨rfl, rfl⟩
    go_wp2_with fail
    go_ret2
    exact ⟨by rw [HC.out]; rfl, rfl⟩
  | false =>
    rw [h] at H
    have HC : Hid (cutS s = s) := Lib.hid (by unfold cutS; rw [if_neg (by rw [h]; simp)])
    clear h
    go_enter Try.func92, Try.ntmps92
    go_wp2_with fail
    refine H.out.mono ?_
    rintro e w1 ⟨rfl, rfl⟩
    go_wp2_with fail
    go_ret2
    exact ⟨by rw [HC.out]; rfl, rfl⟩
theorem cutp_any (s : ByteArray) (w : World) (hs : s.size ≤ 9223372036854775807) : Calls Try.prog 80 #[.string s, .string ⟨#[126]⟩] w fun e w' => e = .returned (.tuple #[.string (cutS s), .bool (heldL s.data.toList)]) ∧ w = w' := by
  have H := Lib.hid (slcut_any s w hs)
  go_enter Try.func80, Try.ntmps80
  go_wp2_with fail
  refine H.out.mono ?_
  rintro e w1 ⟨rfl, rfl⟩
  go_wp2_with fail
  go_ret2
  exact ⟨rfl, rfl⟩
theorem held_first {s : ByteArray} (h : 0 < s.size) : (((s[0]).toNat : Int) == 126) = heldL s.data.toList := by
  have hl := Lib.size_eq s
  have e : s.data.toList[0]? = some s[0] := by
    rw [List.getElem?_eq_getElem (by omega)]; rfl
  generalize s[0] = c at e ⊢
  cases hx : s.data.toList with
  | nil => rw [hx] at e; cases e
  | cons d r =>
    rw [hx] at e
    simp at e
    subst e
    unfold heldL
    rw [Bool.eq_iff_iff]
    simp only [beq_iff_eq, decide_eq_true_eq]
    rw [← UInt8.toNat_inj]
    have e : (126 : UInt8).toNat = 126 := rfl
    rw [e]; omega
set_option maxHeartbeats 1600000 in
theorem hidden_any (s : ByteArray) (w : World) (hs : s.size ≤ 9223372036854775807) : Calls Try.prog 94 #[.string s] w fun e w' => e = .returned (.bool (heldL s.data.toList)) ∧ w = w' := by
  by_cases h : 0 < s.size
  · go_enter Try.func94, Try.ntmps94
    go_wp2_with fail
    go_ret
    exact ⟨ret_bool (held_first h), rfl⟩
  · go_enter Try.func94, Try.ntmps94
    go_wp2_with fail
    go_ret
    exact ⟨ret_bool (by rw [held_string]; simp [show ¬ 1 ≤ s.size by omega]), rfl⟩
set_option maxHeartbeats 1600000 in
theorem markname_any (s : ByteArray) (w : World) (hs : s.size ≤ 9223372036854775807) : Calls Try.prog 82 #[.string s] w fun e w' => e = .returned (.bool (markL s.data.toList)) ∧ w = w' := by
  have H := Lib.hid (hidden_any s w hs)
  have HM := Lib.hid (cutS_mark s)
  have HK := Lib.hid (rname_any (cutS s) w (Nat.le_trans (cutS_len s) hs))
  rw [HM.out] at HK
  cases h : heldL s.data.toList with
  | true =>
    rw [h] at H
    have hp := held_pos h
    have HC : Hid (cutS s = s.extract 1 s.size) := Lib.hid (by unfold cutS; rw [if_pos h])
    rw [HC.out] at HK
    clear h
    go_enter Try.func82, Try.ntmps82
    go_wp2_with (first | (go_at_call 94; refine H.out.mono ?_; rintro e w1 ⟨rfl, rfl⟩) | (go_at_call 95; refine HK.out.mono ?_; rintro e w1 ⟨rfl, rfl⟩))
    go_ret
    exact ⟨rfl, rfl⟩
  | false =>
    rw [h] at H
    have HC : Hid (cutS s = s) := Lib.hid (by unfold cutS; rw [if_neg (by rw [h]; simp)])
    rw [HC.out] at HK
    clear h
    go_enter Try.func82, Try.ntmps82
    go_wp2_with (first | (go_at_call 94; refine H.out.mono ?_; rintro e w1 ⟨rfl, rfl⟩) | (go_at_call 95; refine HK.out.mono ?_; rintro e w1 ⟨rfl, rfl⟩))
    go_ret
    exact ⟨rfl, rfl⟩
/-! ### shapes -/
theorem shape_bool (o u c : Int) : decide (ShapeOk o u c) = (decide (3 ≤ o ∧ o ≤ 6) && (decide (2 ≤ u ∧ u ≤ o) && decide (1 ≤ c ∧ c ≤ 4))) := by
  rw [Bool.eq_iff_iff]; simp only [Bool.and_eq_true, decide_eq_true_eq]; unfold ShapeOk; omega
end Go.Proofs.Ytiahifpbofkimaa
namespace Go.Proofs.Ytiahifpbofkimaa
open Go.RowKit Go.Proofs
set_option linter.unusedVariables false
set_option linter.unusedSimpArgs false
set_option linter.unnecessarySimpa false

noncomputable def bP (p : Prop) : Bool := open Classical in if p then true else false
theorem bP_yes {p : Prop} (h : p) : bP p = true := by unfold bP; rw [if_pos h]
theorem bP_no {p : Prop} (h : ¬ p) : bP p = false := by unfold bP; rw [if_neg h]
theorem bP_iff {p : Prop} : bP p = true ↔ p := by unfold bP; split <;> simp_all
theorem bP_and (p q : Prop) : (bP p && bP q) = bP (p ∧ q) := by
  rw [Bool.eq_iff_iff]; simp only [Bool.and_eq_true, bP_iff]
def Rise (nx : Int) (l : List Mk) : Prop := ∀ i, i < l.length → okM nx l i
theorem rise_bad {nx : Int} {l : List Mk} {j : Nat} {t : Mk} (ht : l[j]? = some t) (h : ¬ (lastM l j < t.id ∧ t.id < nx)) : bP (Rise nx l) = false :=
  bP_no fun hx => h (hx j (List.getElem?_eq_some_iff.1 ht).1 t ht)
theorem rise_all {nx : Int} {l : List Mk} {n : Nat} (hn : l.length = n) (h : ∀ m, m < n → okM nx l m) : bP (Rise nx l) = true := bP_yes fun i hi => h i (by omega)
theorem okM_more {nx : Int} {l : List Mk} {j : Nat} {t : Mk} (ht : l[j]? = some t) (ha : ∀ m, m < j → okM nx l m) (h : lastM l j < t.id ∧ t.id < nx) : ∀ m, m < j + 1 → okM nx l m := fun m hm => by
  by_cases e : m = j
  · subst e; intro u hu; rw [ht] at hu; cases hu; exact h
  · exact ha m (by omega)
theorem apart_here {l : List Mk} {i j : Nat} {t u : Mk} (ht : l[i]? = some t) (hu : l[j]? = some u) (hj : j < i) (he : u.name = t.name) : bP (Apart l) = false :=
  bP_no fun hx => hx i (List.getElem?_eq_some_iff.1 ht).1 t ht j u hj hu he
theorem apart_all {l : List Mk} {n : Nat} (hn : l.length = n) (h : ∀ m, m < n → apartAt l m) : bP (Apart l) = true := bP_yes fun i hi => h i (by omega)
theorem apart_one {l : List Mk} {j : Nat} {t : Mk} (ht : l[j]? = some t) (h : ∀ i u, i < j → l[i]? = some u → u.name ≠ t.name) : apartAt l j := fun s hs => by
  rw [ht] at hs; cases hs; exact h
theorem upto_more {P : Nat → Prop} {j : Nat} (h : ∀ m, m < j → P m) (hj : P j) : ∀ m, m < j + 1 → P m := fun m hm => by
  by_cases e : m = j
  · subst e; exact hj
  · exact h m (by omega)
theorem ne_name {l : List Mk} {i : Nat} {u : Mk} {s : ByteArray} (hu : l[i]? = some u) (hn : u.name ≠ s) (h : ∀ k v, k < i → l[k]? = some v → v.name ≠ s) : ∀ k v, k < i + 1 → l[k]? = some v → v.name ≠ s := fun k v hk hv => by
  by_cases e : k = i
  · subst e; rw [hu] at hv; cases hv; exact hn
  · exact h k v (by omega) hv
end Go.Proofs.Ytiahifpbofkimaa
namespace Go.Proofs.Ytiahifpbofkimaa
open Go.RowKit Go.Proofs
set_option linter.unusedVariables false
set_option linter.unusedSimpArgs false
set_option linter.unnecessarySimpa false

theorem right_nums {h : Hd} (k : ¬ NumsOk h) : rightH h = false := rightH_no fun hx => k hx.1
theorem right_long {h : Hd} {n : Nat} (hn : h.marks.length = n) (k : 17 < n) : rightH h = false := rightH_no fun hx => by have := hx.2.1; omega
theorem right_rise {h : Hd} (k : bP (Rise h.next h.marks) = false) : rightH h = false := rightH_no fun hx => by rw [bP_yes (show Rise h.next h.marks from hx.2.2.1)] at k; cases k
theorem right_holds {h : Hd} (k : 1 < holdsN h.marks) : rightH h = false := rightH_no fun hx => by have := hx.2.2.2.1; omega
theorem right_fit {h : Hd} {j : Nat} {t : Mk} (ht : h.marks[j]? = some t) (k : ¬ t.Fit) : rightH h = false := rightH_no fun hx => k (hx.2.2.2.2.1 t (List.mem_of_getElem? ht))
theorem right_end {h : Hd} {n : Nat} (hn : h.marks.length = n) (k : NumsOk h) (h1 : n ≤ 17) (h2 : bP (Rise h.next h.marks) = true) (h3 : holdsN h.marks ≤ 1) (h4 : ∀ m t, m < n → h.marks[m]? = some t → t.Fit) :
    rightH h = (decide ((seenL h.marks).length ≤ 8) && bP (Apart (seenL h.marks))) := by
  rw [Bool.eq_iff_iff, rightH_iff, Bool.and_eq_true, decide_eq_true_eq, bP_iff]
  constructor
  · intro hx; exact hx.2.2.2.2.2
  · rintro ⟨h5, h6⟩
    refine ⟨k, by omega, bP_iff.1 h2, h3, fun t ht => ?_, h5, h6⟩
    obtain ⟨i, hi⟩ := List.mem_iff_getElem?.1 ht
    exact h4 i t (by have := (List.getElem?_eq_some_iff.1 hi).1; omega) hi
theorem nums_bool (h : Hd) : decide (NumsOk h) = (decide (0 ≤ h.size ∧ h.size ≤ 512) && (decide (ShapeOk h.order h.unit h.count) && (decide (1 ≤ h.next ∧ h.next ≤ 1073741824) && decide (0 ≤ h.seq ∧ h.seq ≤ 1099511627776)))) := by
  rw [Bool.eq_iff_iff]; simp only [Bool.and_eq_true, decide_eq_true_eq]; unfold NumsOk
  constructor
  · rintro ⟨a, b, c, d, e, f, g⟩; exact ⟨⟨a, b⟩, c, ⟨d, e⟩, f, g⟩
  · rintro ⟨⟨a, b⟩, c, ⟨d, e⟩, f, g⟩; exact ⟨a, b, c, d, e, f, g⟩
theorem fit_more {l : List Mk} {j : Nat} {t : Mk} (ht : l[j]? = some t) (h : ∀ m u, m < j → l[m]? = some u → u.Fit) (hf : t.Fit) : ∀ m u, m < j + 1 → l[m]? = some u → u.Fit := fun m u hm hu => by
  by_cases e : m = j
  · subst e; rw [ht] at hu; cases hu; exact hf
  · exact h m u (by omega) hu
end Go.Proofs.Ytiahifpbofkimaa
namespace Go.Proofs.Ytiahifpbofkimaa
open Go.RowKit Go.Proofs
set_option linter.unusedVariables false
set_option linter.unusedSimpArgs false
set_option linter.unnecessarySimpa false

theorem mk_eq_iff (t u : Mk) : (t.id == u.id && (t.name.toList == u.name.toList && (t.size == u.size && t.gone == u.gone))) = decide (t = u) := by
  obtain ⟨a, b, c, d⟩ := t
  obtain ⟨e, f, g, h⟩ := u
  simp only [Mk.mk.injEq]
  have hs : (b.toList == f.toList) = decide (b = f) := by
    by_cases h2 : b = f
    · rw [(sbeq_iff _ _).2 h2]; simp [h2]
    · rw [sbeq_no h2]; simp [h2]
  rw [hs]
  by_cases h1 : a = e <;> by_cases h2 : b = f <;> by_cases h3 : c = g <;> by_cases h4 : d = h <;> simp [h1, h2, h3, h4]
theorem run_mk_in (w : World) (t u : Mk) : (Op.equalIn 10000 46 (mkA t) (mkA u)).run Try.prog w = .ok (decide (t = u)) w := by
  have u3 := Try.underlying3
  have a3 := Try.isAgg3
  have z3 := Try.sizeOf3
  have u4 := Try.underlying4
  have a4 := Try.isAgg4
  have z4 := Try.sizeOf4
  have u5 := Try.underlying9
  have a5 := Try.isAgg9
  have z5 := Try.sizeOf9
  have hS : Try.prog.underlying 46 = some (.struct (Try.prog.fieldsOf 46)) := by kernel_rfl
  have hp : Try.prog.stoodInHeld 46 = false := by kernel_rfl
  rw [show (10000 : Nat) = 9999 + 1 from rfl, run_equalIn_agg w 9999 46 _ _ hS hp, ← mk_eq_iff]
  simp only [Program.fieldsOf, Try.underlying46]
  go_simp
  obtain ⟨a, b, c, d⟩ := t
  obtain ⟨e, f, g, h⟩ := u
  by_cases h1 : a = e <;> by_cases h2 : b.toList = f.toList <;> by_cases h3 : c = g <;> cases d <;> cases h <;> simp [h1, h2, h3]
theorem mk_eql (w : World) (t u : Mk) : (binOp .eql 46 (mkA t) (mkA u)).run Try.prog w = .ok (.bool (decide (t = u))) w := by
  rw [run_eql_struct, run_mk_in]; rfl
theorem mk_neq (w : World) (t u : Mk) : (binOp .neq 46 (mkA t) (mkA u)).run Try.prog w = .ok (.bool (!decide (t = u))) w := by
  rw [run_neq_struct, run_mk_in]; rfl
theorem mk_guard (w : World) (op : BinOp) (x y : Operand) (xs ys : Array Value) : (eqGuard op 46 x y (.agg xs) (.agg ys)).run Try.prog w = .ok () w := run_eqGuard_agg w op _ x y xs ys (by kernel_rfl)
theorem quiet_neM {C : World → Prop} {o : Oper} {a : Act} {K : Act → Prop} (t u : Mk) {x y : Operand} {b : Bool} (ho : o.op = .binOp .neq 46 x y 46) (hx : a.eval x = mkA t)
    (hy : a.eval y = mkA u) (hb : (!decide (t = u)) = b) (hk : K (a.put o.dst (.bool b))) : o.quiet Try.prog a C K :=
  ⟨.bool b, fun w _ => by unfold Oper.quietAt execOp; rw [ho]; subst hb; simp only [hx, hy, Sem.run_bind, mk_guard, mk_neq, Result.andThen_ok, Sem.run_pure]; exact ⟨rfl, rfl⟩, hk⟩
theorem quiet_eqM {C : World → Prop} {o : Oper} {a : Act} {K : Act → Prop} (t u : Mk) {x y : Operand} {b : Bool} (ho : o.op = .binOp .eql 46 x y 46) (hx : a.eval x = mkA t)
    (hy : a.eval y = mkA u) (hb : (decide (t = u)) = b) (hk : K (a.put o.dst (.bool b))) : o.quiet Try.prog a C K :=
  ⟨.bool b, fun w _ => by unfold Oper.quietAt execOp; rw [ho]; subst hb; simp only [hx, hy, Sem.run_bind, mk_guard, mk_eql, Result.andThen_ok, Sem.run_pure]; exact ⟨rfl, rfl⟩, hk⟩
theorem sameM_no {a b : List Mk} {j : Nat} (h : a[j]? ≠ b[j]?) : decide (a = b) = false := by
  rw [decide_eq_false_iff_not]; intro e; rw [e] at h; exact h rfl
theorem sameM_yes {a b : List Mk} {n : Nat} (ha : a.length = n) (hb : b.length = n) (h : ∀ j, j < n → a[j]? = b[j]?) : decide (a = b) = true := by
  rw [decide_eq_true_eq]
  refine List.ext_getElem? fun i => ?_
  by_cases hi : i < n
  · exact h i hi
  · rw [List.getElem?_eq_none (by omega), List.getElem?_eq_none (by omega)]
set_option maxRecDepth 20000 in
set_option maxHeartbeats 3200000 in
theorem msame_any (a1 a2 : Option Addr) (n m c1 c2 : Nat) (ts us : List Mk) (w : World) (h1 : MRow w a1 c1 ts) (h2 : MRow w a2 c2 us) (hn : ts.length = n) (hm : us.length = m) :
    Calls Try.prog 38 #[.slice a1 n c1, .slice a2 m c2] w fun e w' => e = .returned (.bool (decide (ts = us))) ∧ Below w.heap.size w w' := by
  have H1 := Lib.hid h1
  have H2 := Lib.hid h2
  have HN := Lib.hid hn
  have HM := Lib.hid hm
  have hc1 := h1.1
  have hc2 := h2.1
  rw [hn] at hc1
  rw [hm] at hc2
  have hcm1 : c1 ≤ 9223372036854775807 := by have := h1.2.1; unfold maxLen at this; omega
  have hcm2 : c2 ≤ 9223372036854775807 := by have := h2.2.1; unfold maxLen at this; omega
  clear h1 h2 hn hm
  by_cases hnm : n = m
  · subst hnm
    have hq : ((n : Int) != (n : Int)) = false := by simp
    go_enter Try.func38, Try.ntmps38
    go_wp2_with fail
    go_loopw [5] (fun i wr => ∃ j : Nat, i = .int .i64 j ∧ j ≤ n ∧ Below w.heap.size w wr ∧ Hid (∀ k, k < j → ts[k]? = us[k]?)) (fun i _ => n - (intOf i).toNat)
    case atStart => exact ⟨0, rfl, by omega, Below.refl _ _, Lib.hid (fun k h => by omega)⟩
    case round =>
      obtain ⟨j, rfl, hj, hb, HA⟩ := hrel
      have HB := Lib.hid hb
      clear hb
      by_cases hjn : (j : Int) < n
      · obtain ⟨t, ht⟩ : ∃ t, ts[j]? = some t := ⟨ts[j]'(by have := HN.out; omega), List.getElem?_eq_getElem _⟩
        obtain ⟨u, hu⟩ : ∃ u, us[j]? = some u := ⟨us[j]'(by have := HM.out; omega), List.getElem?_eq_getElem _⟩
        obtain ⟨b1, o1, rfl, p0, p1, p2, p3⟩ := (H1.out.later HB.out).c4 ht
        obtain ⟨b2, o2, rfl, q0, q1, q2, q3⟩ := (H2.out.later HB.out).c4 hu
        have HT := Lib.hid ht
        have HU := Lib.hid hu
        clear ht hu
        by_cases he : t = u
        · have hde : (!decide (t = u)) = false := by simpa using he
          have HA2 : Hid (∀ k, k < j + 1 → ts[k]? = us[k]?) := Lib.hid (fun k hk => by
            by_cases e : k = j
            · subst e; rw [HT.out, HU.out, he]
            · exact HA.out k (by omega))
          have HE := Lib.hid hde
          clear he hde
          go_upto_region 6 with fail
          refine wp_region_quiet_lit (by kernel_rfl) (by kernel_rfl) ?_
          repeat (go_big_quiet_step (fail))
          go_big_quiet_want
          refine quiet_neM t u rfl rfl rfl HE.out ?_
          go_big_quiet_on
          simp only [Act.put, List.setIfInBounds_toArray, List.set_cons_succ, List.set_cons_zero]
          refine wpQuiet_nil ?_
          intro _ hw'
          obtain ⟨nq, hw''⟩ := hw'
          subst hw''
          go_wp2_with fail
          go_roundw
          case rel => exact ⟨j + 1, by go_num, by omega, HB.out.trans ((below_drewN _ _).mono HB.out.size), HA2⟩
          case measure => simp [intOf]; omega
        · have hde : (!decide (t = u)) = true := by simpa using he
          have HF := Lib.hid (sameM_no (a := ts) (b := us) (j := j) (by rw [HT.out, HU.out]; simpa using he))
          have HE := Lib.hid hde
          clear he hde
          go_upto_region 6 with fail
          refine wp_region_quiet_lit (by kernel_rfl) (by kernel_rfl) ?_
          repeat (go_big_quiet_step (fail))
          go_big_quiet_want
          refine quiet_neM t u rfl rfl rfl HE.out ?_
          go_big_quiet_on
          simp only [Act.put, List.setIfInBounds_toArray, List.set_cons_succ, List.set_cons_zero]
          refine wpQuiet_nil ?_
          intro _ hw'
          obtain ⟨nq, hw''⟩ := hw'
          subst hw''
          go_wp2_with fail
          go_ret
          exact ⟨ret_bool HF.out.symm, HB.out.trans ((below_drewN _ _).mono HB.out.size)⟩
      · have : j = n := by omega
        subst this
        have HF := Lib.hid (sameM_yes HN.out HM.out HA.out)
        go_wp2_with fail
        go_ret
        exact ⟨ret_bool HF.out.symm, HB.out⟩
  · have hq : ((n : Int) != (m : Int)) = true := by simp; omega
    have HF : Hid (decide (ts = us) = false) := Lib.hid (by rw [decide_eq_false_iff_not]; intro e; rw [e, HM.out] at HN; exact hnm HN.out.symm)
    clear hnm
    go_enter Try.func38, Try.ntmps38
    go_wp2_with fail
    go_ret
    exact ⟨ret_bool HF.out.symm, Below.refl _ _⟩
set_option maxRecDepth 20000 in
set_option maxHeartbeats 3200000 in
theorem mEqual_any (a1 a2 : Option Addr) (n m c1 c2 : Nat) (ts us : List Mk) (w : World) (h1 : MRow w a1 c1 ts) (h2 : MRow w a2 c2 us) (hn : ts.length = n) (hm : us.length = m) :
    Calls Try.prog 51 #[.slice a1 n c1, .slice a2 m c2] w fun e w' => e = .returned (.bool (decide (ts = us))) ∧ Below w.heap.size w w' := by
  have H1 := Lib.hid h1
  have H2 := Lib.hid h2
  have HN := Lib.hid hn
  have HM := Lib.hid hm
  have hc1 := h1.1
  have hc2 := h2.1
  rw [hn] at hc1
  rw [hm] at hc2
  have hcm1 : c1 ≤ 9223372036854775807 := by have := h1.2.1; unfold maxLen at this; omega
  have hcm2 : c2 ≤ 9223372036854775807 := by have := h2.2.1; unfold maxLen at this; omega
  clear h1 h2 hn hm
  by_cases hnm : n = m
  · subst hnm
    have hq : ((n : Int) != (n : Int)) = false := by simp
    go_enter Try.func51, Try.ntmps51
    go_wp2_with fail
    go_loopw [5, 13] (fun _ i wr => ∃ j : Nat, i = .int .i64 j ∧ j ≤ n ∧ Below w.heap.size w wr ∧ Hid (∀ k, k < j → ts[k]? = us[k]?)) (fun _ i _ => n - (intOf i).toNat)
    case atStart => exact ⟨0, rfl, by omega, Below.refl _ _, Lib.hid (fun k h => by omega)⟩
    case round =>
      obtain ⟨j, rfl, hj, hb, HA⟩ := hrel
      have HB := Lib.hid hb
      clear hb
      by_cases hjn : (j : Int) < n
      · obtain ⟨t, ht⟩ : ∃ t, ts[j]? = some t := ⟨ts[j]'(by have := HN.out; omega), List.getElem?_eq_getElem _⟩
        obtain ⟨u, hu⟩ : ∃ u, us[j]? = some u := ⟨us[j]'(by have := HM.out; omega), List.getElem?_eq_getElem _⟩
        obtain ⟨b1, o1, rfl, p0, p1, p2, p3⟩ := (H1.out.later HB.out).c4 ht
        obtain ⟨b2, o2, rfl, q0, q1, q2, q3⟩ := (H2.out.later HB.out).c4 hu
        have HT := Lib.hid ht
        have HU := Lib.hid hu
        clear ht hu
        by_cases he : t = u
        · have HE : Hid ((!decide (t = u)) = false) := Lib.hid (by simpa using he)
          have HA2 : Hid (∀ k, k < j + 1 → ts[k]? = us[k]?) := Lib.hid (fun k hk => by
            by_cases e : k = j
            · subst e; rw [HT.out, HU.out, he]
            · exact HA.out k (by omega))
          clear he
          go_upto_region 6 with fail
          refine wp_region_quiet_lit (by kernel_rfl) (by kernel_rfl) ?_
          repeat (go_big_quiet_step (fail))
          go_big_quiet_want
          refine quiet_neM t u rfl rfl rfl HE.out ?_
          go_big_quiet_on
          simp only [Act.put, List.setIfInBounds_toArray, List.set_cons_succ, List.set_cons_zero]
          refine wpQuiet_nil ?_
          intro _ hw'
          obtain ⟨nq, hw''⟩ := hw'
          subst hw''
          go_wp2_with fail
          go_roundw
          case rel => exact ⟨j + 1, by go_num, by omega, HB.out.trans ((below_drewN _ _).mono HB.out.size), HA2⟩
          case measure => simp [intOf]; omega
        · have HE : Hid ((!decide (t = u)) = true) := Lib.hid (by simpa using he)
          have HF := Lib.hid (sameM_no (a := ts) (b := us) (j := j) (by rw [HT.out, HU.out]; simpa using he))
          clear he
          go_upto_region 6 with fail
          refine wp_region_quiet_lit (by kernel_rfl) (by kernel_rfl) ?_
          repeat (go_big_quiet_step (fail))
          go_big_quiet_want
          refine quiet_neM t u rfl rfl rfl HE.out ?_
          go_big_quiet_on
          simp only [Act.put, List.setIfInBounds_toArray, List.set_cons_succ, List.set_cons_zero]
          refine wpQuiet_nil ?_
          intro _ hw'
          obtain ⟨nq, hw''⟩ := hw'
          subst hw''
          go_wp2_with fail
          go_ret
          exact ⟨ret_bool HF.out.symm, HB.out.trans ((below_drewN _ _).mono HB.out.size)⟩
      · have : j = n := by omega
        subst this
        have HF := Lib.hid (sameM_yes HN.out HM.out HA.out)
        go_wp2_with fail
        go_ret
        exact ⟨ret_bool HF.out.symm, HB.out⟩
  · have hq : ((n : Int) != (m : Int)) = true := by simp; omega
    have HF : Hid (decide (ts = us) = false) := Lib.hid (by rw [decide_eq_false_iff_not]; intro e; rw [e, HM.out] at HN; exact hnm HN.out.symm)
    clear hnm
    go_enter Try.func51, Try.ntmps51
    go_wp2_with fail
    go_ret
    exact ⟨ret_bool HF.out.symm, Below.refl _ _⟩
end Go.Proofs.Ytiahifpbofkimaa
