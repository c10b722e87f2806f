/- Records of an image: rows of marks; names; shapes. -/
import Derived.Test.YtfjplhjlmilcfaaHdPlain
import Derived.Test.YtfjplhjlmilcfaaGRow
import Derived.Test.YtfjplhjlmilcfaaEv
import Derived.Test.YtfjplhjlmilcfaaBy
import Derived.Test.YtfjplhjlmilcfaaCu
import Derived.Lib.Strings
namespace Go.Proofs.Ytfjplhjlmilcfaa
open Go.RowKit Go.Proofs
set_option linter.unusedVariables false
set_option linter.unusedSimpArgs false
set_option linter.unnecessarySimpa false

def Mk.B (t : Mk) : Prop := W64 t.id ∧ W64 t.size ∧ t.name.size ≤ 9223372036854775807
def mkV (t : Mk) : List Value := [.int .i64 t.id, .string t.name, .int .i64 t.size, .bool t.gone]
abbrev mkT : RT Mk := ⟨mkV, 4, Mk.B, 39, 24⟩
theorem info_mk : (Try.prog.info? 39).map (fun i => (i.zero, i.size, i.bytes)) = some (some (.agg #[.int .i64 0, .string ⟨#[]⟩, .int .i64 0, .bool false]), 4, 40) := by kernel_rfl
theorem mkOk : (mkT).Ok := RT.Ok.of (fun t => rfl) (fun t u h => by
    simp only [mkV, List.mem_cons, List.not_mem_nil, or_false] at h
    rcases h with rfl | rfl | rfl | rfl <;> rfl) (by decide) Try.underlying24 info_mk rfl (by decide) rfl
def MkE (cs : List Value) (t : Mk) : Prop := cs = mkV t ∧ t.B
theorem opens_mk {w : World} : Opens w 39 MkE :=
  Opens.fields Try.underlying39 (by kernel_rfl : Try.prog.cellsOf 39 = 4) fun cs hl hf => by
    obtain ⟨a, ha, wa⟩ := hf 0 _ rfl _ _ (Opens.int (k := .i64) Try.underlying3)
    obtain ⟨b, hb, wb⟩ := hf 1 _ rfl _ _ (Opens.str Try.underlying9)
    obtain ⟨c, hc, wc⟩ := hf 2 _ rfl _ _ (Opens.int (k := .i64) Try.underlying3)
    obtain ⟨d, hd⟩ := hf 3 _ rfl _ _ (Opens.bool Try.underlying4)
    refine ⟨⟨a, ⟨b.toArray⟩, c, d⟩, ?_, wf_i64 wa, wf_i64 wc, by unfold maxLen at wb; simpa [ByteArray.size] using (show b.length ≤ 9223372036854775807 by omega)⟩
    match cs, hl with
    | [x, y, z, u], _ =>
      have h1 : Try.prog.cellsOf 3 = 1 := by kernel_rfl
      have h2 : Try.prog.cellsOf 4 = 1 := by kernel_rfl
      have h3 : Try.prog.cellsOf 9 = 1 := by kernel_rfl
      simp [h1, h2, h3, BoolE] at ha hb hc hd
      simp [mkV, ha, hb, hc, hd]
abbrev MRow := GRow mkT
abbrev MOwn := GOwn mkT
theorem RowE.mrow {w : World} {a : Option Addr} {cap : Nat} {ts : List Mk} (h : RowE w 4 MkE a cap ts) : MRow w a cap ts := h.grow rfl (by decide) (fun t => rfl) fun cs t h => h
theorem GRow.c4 {w : World} {a : Option Addr} {cap : Nat} {ts : List Mk} (h : GRow mkT w a cap ts) {i : Nat} {t : Mk} (he : ts[i]? = some t) :
    ∃ b off, a = some ⟨b, off, .none⟩ ∧ w.cell? ⟨b, off + i * 4, .none⟩ = some (.int .i64 t.id) ∧ w.cell? ⟨b, off + i * 4 + 1, .none⟩ = some (.string t.name) ∧ w.cell? ⟨b, off + i * 4 + 2, .none⟩ = some (.int .i64 t.size) ∧ w.cell? ⟨b, off + i * 4 + 3, .none⟩ = some (.bool t.gone) := by
  obtain ⟨b, off, ha, c⟩ := h.at he
  exact ⟨b, off, ha, c 0 _ rfl, c 1 _ rfl, c 2 _ rfl, c 3 _ rfl⟩
theorem RecAt.c4 {w : World} {x : Nat} {a b c d : Value} {t : TypeId} (h : RecAt w x #[a, b, c, d] t) : w.cell? ⟨x, 0, none⟩ = some a ∧ w.cell? ⟨x, 1, none⟩ = some b ∧ w.cell? ⟨x, 2, none⟩ = some c ∧ w.cell? ⟨x, 3, none⟩ = some d := ⟨h.cell rfl, h.cell rfl, h.cell rfl, h.cell rfl⟩
theorem RecAt.c7 {w : World} {x : Nat} {a b c d e f g : Value} {t : TypeId} (h : RecAt w x #[a, b, c, d, e, f, g] t) : w.cell? ⟨x, 0, none⟩ = some a ∧ w.cell? ⟨x, 1, none⟩ = some b ∧ w.cell? ⟨x, 2, none⟩ = some c ∧ w.cell? ⟨x, 3, none⟩ = some d ∧ w.cell? ⟨x, 4, none⟩ = some e ∧ w.cell? ⟨x, 5, none⟩ = some f ∧ w.cell? ⟨x, 6, none⟩ = some g := ⟨h.cell rfl, h.cell rfl, h.cell rfl, h.cell rfl, h.cell rfl, h.cell rfl, h.cell rfl⟩
/-- A record as a value, its marks at a. -/
abbrev hdA (h : Hd) (a : Option Addr) (n c : Nat) : Value := .agg #[.int .i64 h.size, .int .i64 h.order, .int .i64 h.unit, .int .i64 h.count, .int .i64 h.next, .int .i64 h.seq, .slice a n c]
abbrev mkA (t : Mk) : Value := .agg #[.int .i64 t.id, .string t.name, .int .i64 t.size, .bool t.gone]

/-! ### names -/
theorem held_string (s : ByteArray) : heldL s.data.toList = (decide (1 ≤ s.size) && (s.extract 0 1).toList == [126]) := by
  rw [Lib.extract_toList, Lib.size_eq]
  cases h : s.data.toList with
  | nil => simp [heldL]
  | cons c r => by_cases e : c = 126 <;> simp [heldL, e]
theorem held_pos {s : ByteArray} (h : heldL s.data.toList = true) : 1 ≤ s.size := by
  rw [held_string] at h; simp at h; exact h.1
set_option maxHeartbeats 1600000 in
theorem slpre_any (s : ByteArray) (w : World) (hs : s.size ≤ 9223372036854775807) : Calls Try.prog 69 #[.string s, .string ⟨#[126]⟩] w fun e w' => e = .returned (.bool (heldL s.data.toList)) ∧ w = w' := by
  rw [held_string]
  by_cases h : 1 ≤ s.size
  · go_enter Try.func69, Try.ntmps69
    go_wp2_with fail
    go_ret
    exact ⟨ret_bool (by simp [h]), rfl⟩
  · go_enter Try.func69, Try.ntmps69
    go_wp2_with fail
    go_ret
    exact ⟨ret_bool (by simp [h]), rfl⟩
theorem between_any (n a b : Int) (w : World) : Calls Try.prog 41 #[.int .i64 n, .int .i64 a, .int .i64 b] w fun e w' => e = .returned (.bool (decide (a ≤ n ∧ n ≤ b))) ∧ w = w' := by
  by_cases h1 : a ≤ n <;> by_cases h2 : n ≤ b
  all_goals
    go_enter Try.func41, Try.ntmps41
    go_wp2
    go_ret
    exact ⟨ret_bool (by simp [h1, h2]), rfl⟩

theorem pre_any (s : ByteArray) (w : World) (hs : s.size ≤ 9223372036854775807) : Calls Try.prog 66 #[.string s, .string ⟨#[126]⟩] w fun e w' => e = .returned (.bool (heldL s.data.toList)) ∧ w = w' := by
  have H := Lib.hid (slpre_any s w hs)
  go_enter Try.func66, Try.ntmps66
  go_wp2_with fail
  refine H.out.mono ?_
  rintro e w1 ⟨rfl, rfl⟩
  go_wp2_with fail
  go_ret
  exact ⟨rfl, rfl⟩
/-- What CutPrefix leaves. -/
def cutS (s : ByteArray) : ByteArray := if heldL s.data.toList then s.extract 1 s.size else s
theorem cutS_len (s : ByteArray) : (cutS s).size ≤ s.size := by
  unfold cutS
  split
  · simp [ByteArray.size_extract]
  · exact Nat.le_refl _
theorem cutS_mark (s : ByteArray) : nameOk (cutS s).data.toList = markL s.data.toList := by
  unfold cutS markL
  split
  · rw [Lib.extract_data, List.take_of_length_le (by rw [List.length_drop, ← Lib.size_eq]; omega), List.drop_one]
  · rfl
set_option maxHeartbeats 1600000 in
theorem slcut_any (s : ByteArray) (w : World) (hs : s.size ≤ 9223372036854775807) : Calls Try.prog 67 #[.string s, .string ⟨#[126]⟩] w fun e w' => e = .returned (.tuple #[.string (cutS s), .bool (heldL s.data.toList)]) ∧ w = w' := by
  have H := Lib.hid (slpre_any s w hs)
  cases h : heldL s.data.toList with
  | true =>
    rw [h] at H
    have hp := held_pos h
    have HC : Hid (cutS s = s.extract 1 s.size) := Lib.hid (by unfold cutS; rw [if_pos h])
    clear h
    go_enter Try.func67, Try.ntmps67
    go_wp2_with fail
    refine H.out.mono ?_
    rintro e w1 ⟨rfl, rfl⟩
    go_wp2_with fail
    go_ret2
    exact ⟨by rw [HC.out]; rfl, rfl⟩
  | false =>
    rw [h] at H
    have HC : Hid (cutS s = s) := Lib.hid (by unfold cutS; rw [if_neg (by rw [h]; simp)])
    clear h
    go_enter Try.func67, Try.ntmps67
    go_wp2_with fail
    refine H.out.mono ?_
    rintro e w1 ⟨rfl, rfl⟩
    go_wp2_with fail
    go_ret2
    exact ⟨by rw [HC.out]; rfl, rfl⟩
theorem cutp_any (s : ByteArray) (w : World) (hs : s.size ≤ 9223372036854775807) : Calls Try.prog 62 #[.string s, .string ⟨#[126]⟩] w fun e w' => e = .returned (.tuple #[.string (cutS s), .bool (heldL s.data.toList)]) ∧ w = w' := by
  have H := Lib.hid (slcut_any s w hs)
  go_enter Try.func62, Try.ntmps62
  go_wp2_with fail
  refine H.out.mono ?_
  rintro e w1 ⟨rfl, rfl⟩
  go_wp2_with fail
  go_ret2
  exact ⟨rfl, rfl⟩
theorem held_first {s : ByteArray} (h : 0 < s.size) : (((s[0]).toNat : Int) == 126) = heldL s.data.toList := by
  have hl := Lib.size_eq s
  have e : s.data.toList[0]? = some s[0] := by
    rw [List.getElem?_eq_getElem (by omega)]; rfl
  generalize s[0] = c at e ⊢
  cases hx : s.data.toList with
  | nil => rw [hx] at e; cases e
  | cons d r =>
    rw [hx] at e
    simp at e
    subst e
    unfold heldL
    rw [Bool.eq_iff_iff]
    simp only [beq_iff_eq, decide_eq_true_eq]
    rw [← UInt8.toNat_inj]
    have e : (126 : UInt8).toNat = 126 := rfl
    rw [e]; omega
set_option maxHeartbeats 1600000 in
theorem hidden_any (s : ByteArray) (w : World) (hs : s.size ≤ 9223372036854775807) : Calls Try.prog 39 #[.string s] w fun e w' => e = .returned (.bool (heldL s.data.toList)) ∧ w = w' := by
  by_cases h : 0 < s.size
  · go_enter Try.func39, Try.ntmps39
    go_wp2_with fail
    go_ret
    exact ⟨ret_bool (held_first h), rfl⟩
  · go_enter Try.func39, Try.ntmps39
    go_wp2_with fail
    go_ret
    exact ⟨ret_bool (by rw [held_string]; simp [show ¬ 1 ≤ s.size by omega]), rfl⟩
set_option maxHeartbeats 1600000 in
theorem markname_any (s : ByteArray) (w : World) (hs : s.size ≤ 9223372036854775807) : Calls Try.prog 46 #[.string s] w fun e w' => e = .returned (.bool (markL s.data.toList)) ∧ w = w' := by
  have H := Lib.hid (hidden_any s w hs)
  have HM := Lib.hid (cutS_mark s)
  have HK := Lib.hid (rname_any (cutS s) w (Nat.le_trans (cutS_len s) hs))
  rw [HM.out] at HK
  cases h : heldL s.data.toList with
  | true =>
    rw [h] at H
    have hp := held_pos h
    have HC : Hid (cutS s = s.extract 1 s.size) := Lib.hid (by unfold cutS; rw [if_pos h])
    rw [HC.out] at HK
    clear h
    go_enter Try.func46, Try.ntmps46
    go_wp2_with (first | (go_at_call 39; refine H.out.mono ?_; rintro e w1 ⟨rfl, rfl⟩) | (go_at_call 64; refine HK.out.mono ?_; rintro e w1 ⟨rfl, rfl⟩))
    go_ret
    exact ⟨rfl, rfl⟩
  | false =>
    rw [h] at H
    have HC : Hid (cutS s = s) := Lib.hid (by unfold cutS; rw [if_neg (by rw [h]; simp)])
    rw [HC.out] at HK
    clear h
    go_enter Try.func46, Try.ntmps46
    go_wp2_with (first | (go_at_call 39; refine H.out.mono ?_; rintro e w1 ⟨rfl, rfl⟩) | (go_at_call 64; refine HK.out.mono ?_; rintro e w1 ⟨rfl, rfl⟩))
    go_ret
    exact ⟨rfl, rfl⟩
theorem hold_any (t : Mk) (w : World) (hB : t.B) : Calls Try.prog 61 #[mkA t] w fun e w' => e = .returned (.bool t.held) ∧ Below w.heap.size w w' := by
  have H := Lib.hid fun W => pre_any t.name W hB.2.2
  have hb : Below w.heap.size w (w.alloc (.cells #[.int .i64 t.id, .string t.name, .int .i64 t.size, .bool t.gone] 39)) := (Below.refl _ _).alloc (Nat.le_refl _) _
  have HB := Lib.hid hb
  clear hb
  go_enter Try.func61, Try.ntmps61
  go_wp2_with (go_at_call 66; refine (H.out _).mono ?_; rintro e w1 ⟨rfl, rfl⟩)
  go_ret
  exact ⟨rfl, HB.out⟩
theorem mseen_any (t : Mk) (w : World) (hB : t.B) : Calls Try.prog 40 #[mkA t] w fun e w' => e = .returned (.bool t.seen) ∧ Below w.heap.size w w' := by
  have hb : Below w.heap.size w (w.alloc (.cells #[.int .i64 t.id, .string t.name, .int .i64 t.size, .bool t.gone] 39)) := (Below.refl _ _).alloc (Nat.le_refl _) _
  have HB := Lib.hid hb
  have H := Lib.hid fun W => hold_any t W hB
  clear hb
  obtain ⟨ti, tn, ts, tg⟩ := t
  cases tg with
  | true =>
    have HF : Hid ((Mk.mk ti tn ts true).seen = false) := Lib.hid rfl
    go_enter Try.func40, Try.ntmps40
    go_wp2_with fail
    go_ret
    exact ⟨ret_bool HF.out.symm, HB.out⟩
  | false =>
    have HF : Hid ((Mk.mk ti tn ts false).seen = !(Mk.mk ti tn ts false).held) := Lib.hid rfl
    go_enter Try.func40, Try.ntmps40
    go_wp2_with (go_at_call 61; refine (H.out _).mono ?_; rintro e w1 ⟨rfl, hb1⟩)
    go_ret
    exact ⟨ret_bool HF.out.symm, HB.out.trans (hb1.mono HB.out.size)⟩
set_option maxHeartbeats 3200000 in
theorem rightMark_any (t : Mk) (w : World) (hB : t.B) : Calls Try.prog 44 #[mkA t] w fun e w' => e = .returned (.bool (decide t.Fit)) ∧ Below w.heap.size w w' := by
  have H := Lib.hid fun W => cutp_any t.name W hB.2.2
  have hcs := Nat.le_trans (cutS_len t.name) hB.2.2
  have HN := Lib.hid fun W => name_any (cutS t.name) W hcs
  rw [cutS_mark] at HN
  have hb : Below w.heap.size w (w.alloc (.cells #[.int .i64 t.id, .string t.name, .int .i64 t.size, .bool t.gone] 39)) := (Below.refl _ _).alloc (Nat.le_refl _) _
  have HB := Lib.hid hb
  have HF : Hid (decide t.Fit = (markL t.name.data.toList && (!(heldL t.name.data.toList && t.gone) && decide (0 ≤ t.size ∧ t.size ≤ 512)))) := Lib.hid (by
    rw [Bool.eq_iff_iff]; simp only [Bool.and_eq_true, decide_eq_true_eq, Bool.not_eq_true', Bool.and_eq_false_imp, Bool.not_eq_true]
    unfold Mk.Fit Mk.held Mk.nm
    constructor
    · rintro ⟨h1, h2, h3⟩
      exact ⟨h1, fun h => by cases hg : t.gone <;> simp_all, h3⟩
    · rintro ⟨h1, h2, h3⟩
      exact ⟨h1, fun ⟨h, h4⟩ => (by rw [h2 h] at h4; cases h4), h3⟩)
  clear hb hcs
  rw [HF.out]
  clear HF hB
  obtain ⟨ti, tn, ts, tg⟩ := t
  try simp only at H
  try simp only at HN
  try simp only at HB
  cases h1 : markL tn.data.toList <;> cases h2 : heldL tn.data.toList <;> cases tg
  all_goals
    simp only [h1] at HN
    simp only [h2] at H
    clear h1 h2
    go_enter Try.func44, Try.ntmps44
    go_wp2_with (first
      | (go_at_call 62; refine (H.out _).mono ?_; rintro e w1 ⟨rfl, rfl⟩)
      | (go_at_call 63; refine (HN.out _).mono ?_; rintro e w1 ⟨rfl, rfl⟩)
      | (go_at_call 41; refine (between_any _ _ _ _).mono ?_; rintro e w1 ⟨rfl, rfl⟩))
    go_ret
    exact ⟨ret_bool (by simp), HB.out⟩

/-! ### shapes -/
theorem shape_bool (o u c : Int) : decide (ShapeOk o u c) = (decide (3 ≤ o ∧ o ≤ 6) && (decide (2 ≤ u ∧ u ≤ o) && decide (1 ≤ c ∧ c ≤ 4))) := by
  rw [Bool.eq_iff_iff]; simp only [Bool.and_eq_true, decide_eq_true_eq]; unfold ShapeOk; omega
set_option maxHeartbeats 1600000 in
theorem shape_any (o u c : Int) (w : World) : Calls Try.prog 19 #[.agg #[.int .i64 o, .int .i64 u, .int .i64 c]] w fun e w' => e = .returned (.bool (decide (ShapeOk o u c))) ∧ Below w.heap.size w w' := by
  have hb : Below w.heap.size w (w.alloc (.cells #[.int .i64 o, .int .i64 u, .int .i64 c] 23)) := (Below.refl _ _).alloc (Nat.le_refl _) _
  have HB := Lib.hid hb
  clear hb
  rw [shape_bool]
  cases h1 : decide (3 ≤ o ∧ o ≤ 6) <;> cases h2 : decide (2 ≤ u ∧ u ≤ o) <;> cases h3 : decide (1 ≤ c ∧ c ≤ 4)
  all_goals
    go_enter Try.func19, Try.ntmps19
    go_wp2_with (go_at_call 41; refine (between_any _ _ _ _).mono ?_; (first | rw [h1] | rw [h2] | rw [h3]); rintro e w1 ⟨rfl, rfl⟩)
    go_ret
    exact ⟨rfl, HB.out⟩
set_option maxHeartbeats 3200000 in
theorem rshape_any (o u c : Int) (w : World) : Calls Try.prog 20 #[.agg #[.int .i64 o, .int .i64 u, .int .i64 c]] w fun e w' => e = .returned (.bool (decide (ShapeOk o u c))) ∧ Below w.heap.size w w' := by
  have hb : Below w.heap.size w (w.alloc (.cells #[.int .i64 o, .int .i64 u, .int .i64 c] 23)) := (Below.refl _ _).alloc (Nat.le_refl _) _
  have HB := Lib.hid hb
  clear hb
  rcases (show ¬ 3 ≤ o ∨ (3 ≤ o ∧ ¬ o ≤ 6) ∨ ((3 ≤ o ∧ o ≤ 6) ∧ ¬ 2 ≤ u) ∨ ((3 ≤ o ∧ o ≤ 6) ∧ 2 ≤ u ∧ ¬ u ≤ o) ∨ ((3 ≤ o ∧ o ≤ 6) ∧ (2 ≤ u ∧ u ≤ o) ∧ ¬ 1 ≤ c) ∨ ((3 ≤ o ∧ o ≤ 6) ∧ (2 ≤ u ∧ u ≤ o) ∧ 1 ≤ c ∧ ¬ c ≤ 4) ∨ ((3 ≤ o ∧ o ≤ 6) ∧ (2 ≤ u ∧ u ≤ o) ∧ 1 ≤ c ∧ c ≤ 4) by omega) with h | h | h | h | h | h | h
  all_goals
    have HF : Hid (decide (ShapeOk o u c) = decide (ShapeOk o u c)) := Lib.hid rfl
    first | obtain ⟨⟨h1, h2⟩, ⟨h3, h4⟩, h5, h6⟩ := h | obtain ⟨⟨h1, h2⟩, ⟨h3, h4⟩, h5⟩ := h | obtain ⟨⟨h1, h2⟩, h3, h4⟩ := h | obtain ⟨⟨h1, h2⟩, h3⟩ := h | obtain ⟨h1, h2⟩ := h | skip
    go_enter Try.func20, Try.ntmps20
    go_wp2
    go_ret
    exact ⟨ret_bool (by symm; first | exact decide_eq_true (by unfold ShapeOk; omega) | exact decide_eq_false (by unfold ShapeOk; omega)), HB.out⟩
end Go.Proofs.Ytfjplhjlmilcfaa
