/- Messages: rows of entries that are alike; a message as a value. -/
import Derived.Test.YtiahifpbofkimaaGB
import Derived.Test.YtiahifpbofkimaaGK
import Derived.Test.YtiahifpbofkimaaGJ
import Derived.Test.YtiahifpbofkimaaGG
import Derived.Test.YtiahifpbofkimaaGE
namespace Go.Proofs.Ytiahifpbofkimaa
open Go.RowKit Go.Proofs
set_option linter.unusedVariables false
set_option linter.unusedSimpArgs false
set_option linter.unnecessarySimpa false

theorem en_eq_iff (e u : En) : decide (e = u) = ((e.tag == u.tag) && ((e.seq == u.seq) && decide (e.data = u.data))) := by
  obtain ⟨a, b, c⟩ := e
  obtain ⟨a', b', c'⟩ := u
  simp only [En.mk.injEq]
  by_cases h1 : a = a' <;> by_cases h2 : b = b' <;> simp [h1, h2]
theorem sameG_no {α : Type} [DecidableEq α] {a b : List α} {j : Nat} (h : a[j]? ≠ b[j]?) : decide (a = b) = false := by
  rw [decide_eq_false_iff_not]; intro e; exact h (by rw [e])
theorem sameG_yes {α : Type} [DecidableEq α] {a b : List α} {n : Nat} (ha : a.length = n) (hb : b.length = n) (h : ∀ j, j < n → a[j]? = b[j]?) : decide (a = b) = true := by
  rw [decide_eq_true_eq]
  apply List.ext_getElem?
  intro i
  by_cases hi : i < n
  · exact h i hi
  · rw [List.getElem?_eq_none (by omega), List.getElem?_eq_none (by omega)]
theorem sbeq_dec (x y : List UInt8) : ((⟨x.toArray⟩ : ByteArray).toList == (⟨y.toArray⟩ : ByteArray).toList) = decide (x = y) := by
  by_cases h : x = y
  · subst h; simp
  · rw [sbeq_no (fun e => h (bytes_eq.1 e)), decide_eq_false h]
theorem en_no {es us : List En} {j : Nat} {e u : En} (h1 : es[j]? = some e) (h2 : us[j]? = some u) (h : decide (e = u) = false) : decide (es = us) = false :=
  sameG_no (j := j) (by rw [h1, h2]; intro c; rw [Option.some.inj c] at h; simp at h)
theorem en_more {es us : List En} {j : Nat} {e u : En} (h1 : es[j]? = some e) (h2 : us[j]? = some u) (h : decide (e = u) = true) (ha : ∀ k, k < j → es[k]? = us[k]?) : ∀ k, k < j + 1 → es[k]? = us[k]? := fun k hk => by
  by_cases c : k = j
  · subst c; rw [h1, h2, of_decide_eq_true h]
  · exact ha k (by omega)
set_option maxRecDepth 20000 in
set_option maxHeartbeats 6400000 in
theorem esame_list (a1 a2 : Option Addr) (n m c1 c2 : Nat) (es us : List En) (w : World) (h1 : ERow w a1 c1 es) (h2 : ERow w a2 c2 us) (hn : es.length = n) (hm : us.length = m) :
    Calls Try.prog 37 #[.slice a1 n c1, .slice a2 m c2] w fun e w' => e = .returned (.bool (decide (es = us))) ∧ Below w.heap.size w w' := by
  have H1 := Lib.hid h1
  have H2 := Lib.hid h2
  have HN := Lib.hid hn
  have HM := Lib.hid hm
  have hc1 := h1.1
  have hc2 := h2.1
  rw [hn] at hc1
  rw [hm] at hc2
  have hcm1 : c1 ≤ 9223372036854775807 := by have := h1.2.1; unfold maxLen at this; omega
  have hcm2 : c2 ≤ 9223372036854775807 := by have := h2.2.1; unfold maxLen at this; omega
  clear h1 h2 hn hm
  by_cases hnm : n = m
  · subst hnm
    have hq : ((n : Int) != (n : Int)) = false := by simp
    go_enter Try.func37, Try.ntmps37
    go_wp2_with fail
    go_loopw [5] (fun i wr => ∃ j : Nat, i = .int .i64 j ∧ j ≤ n ∧ Below w.heap.size w wr ∧ Hid (∀ k, k < j → es[k]? = us[k]?)) (fun i _ => n - (intOf i).toNat)
    case atStart => exact ⟨0, rfl, by omega, Below.refl _ _, Lib.hid (fun k h => by omega)⟩
    case round =>
      obtain ⟨j, rfl, hj, hb, HA⟩ := hrel
      have HB := Lib.hid hb
      clear hb
      by_cases hjn : (j : Int) < n
      · obtain ⟨e, he⟩ : ∃ e, es[j]? = some e := ⟨es[j]'(by have := HN.out; omega), List.getElem?_eq_getElem _⟩
        obtain ⟨u, hu⟩ : ∃ u, us[j]? = some u := ⟨us[j]'(by have := HM.out; omega), List.getElem?_eq_getElem _⟩
        obtain ⟨b1, o1, d1, k1, rfl, p0, p1, p2, R1⟩ := (H1.out.later HB.out).at he
        obtain ⟨b2, o2, d2, k2, rfl, q0, q1, q2, R2⟩ := (H2.out.later HB.out).at hu
        have HC1 := fun nq => conv_row (R1.later (below_drewN wr nq))
        have HC2 := fun nq => conv_row (R2.later (below_drewN wr nq))
        have HNO := Lib.hid (en_no he hu)
        have HYE := Lib.hid (fun h => en_more he hu h HA.out)
        rw [en_eq_iff] at HNO HYE
        rw [← sbeq_dec] at HNO HYE
        clear he hu R1 R2
        generalize (⟨e.data.toArray⟩ : ByteArray) = S1 at *
        generalize (⟨u.data.toArray⟩ : ByteArray) = S2 at *
        generalize e.tag = T1 at *
        generalize u.tag = T2 at *
        generalize e.seq = Z1 at *
        generalize u.seq = Z2 at *
        generalize e.data.length = L1 at *
        generalize u.data.length = L2 at *
        cases et : (T1 == T2) with
        | false =>
          rw [et] at HNO
          have etn : (T1 != T2) = true := by simp [bne, et]
          go_upto_region 6 with fail
          go_quiet (fail)
          clear HC1 HC2
          go_wp2_with fail
          go_ret
          exact ⟨ret_bool (HNO.out (by simp)).symm, HB.out.trans ((below_drewN _ _).mono HB.out.size)⟩
        | true =>
          have etn : (T1 != T2) = false := by simp [bne, et]
          rw [et] at HNO HYE
          cases ez : (Z1 == Z2) with
          | false =>
            rw [ez] at HNO
            have ezn : (Z1 != Z2) = true := by simp [bne, ez]
            go_upto_region 6 with fail
            go_quiet (fail)
            clear HC1 HC2
            go_wp2_with fail
            go_ret
            exact ⟨ret_bool (HNO.out (by simp)).symm, HB.out.trans ((below_drewN _ _).mono HB.out.size)⟩
          | true =>
            have ezn : (Z1 != Z2) = false := by simp [bne, ez]
            rw [ez] at HNO HYE
            cases es' : (S1.toList == S2.toList) with
            | false =>
              rw [es'] at HNO
              go_upto_region 6 with fail
              go_quiet (fail)
              clear HC1 HC2
              go_wp2_with fail
              go_ret
              exact ⟨ret_bool (HNO.out (by simp)).symm, HB.out.trans ((below_drewN _ _).mono HB.out.size)⟩
            | true =>
              rw [es'] at HYE
              have HA2 := Lib.hid (HYE.out (by simp))
              go_upto_region 6 with fail
              go_quiet (fail)
              clear HC1 HC2
              go_wp2_with fail
              go_roundw
              case rel => exact ⟨j + 1, by go_num, by omega, HB.out.trans ((below_drewN _ _).mono HB.out.size), HA2⟩
              case measure => simp [intOf]; omega
      · have : j = n := by omega
        subst this
        have HF := Lib.hid (sameG_yes HN.out HM.out HA.out)
        go_wp2_with fail
        go_ret
        exact ⟨ret_bool HF.out.symm, HB.out⟩
  · have hq : ((n : Int) != (m : Int)) = true := by simp; omega
    have HF : Hid (decide (es = us) = false) := Lib.hid (by rw [decide_eq_false_iff_not]; intro e; rw [e, HM.out] at HN; exact hnm HN.out.symm)
    clear hnm
    go_enter Try.func37, Try.ntmps37
    go_wp2_with fail
    go_ret
    exact ⟨ret_bool HF.out.symm, Below.refl _ _⟩

/-! ### the program's -/
theorem two_below (w : World) (x y : Obj) : Below w.heap.size w ((w.alloc x).alloc y) := ((Below.refl _ _).alloc (Nat.le_refl _) x).trans (((Below.refl _ _).alloc (Nat.le_refl _) y).mono (by simp))
set_option maxRecDepth 20000 in
set_option maxHeartbeats 3200000 in
theorem sameEn_any (e u : En) (a1 a2 : Option Addr) (n m c1 c2 : Nat) (w : World) (h1 : Row w a1 c1 e.data) (h2 : Row w a2 c2 u.data) (hn : e.data.length = n) (hm : u.data.length = m) :
    Calls Try.prog 50 #[.agg #[.int .i64 e.tag, .int .i64 e.seq, .slice a1 n c1], .agg #[.int .i64 u.tag, .int .i64 u.seq, .slice a2 m c2]] w fun x w' => x = .returned (.bool (decide (e = u))) ∧ Below w.heap.size w w' := by
  rw [en_eq_iff]
  obtain ⟨et, eq, el⟩ := e
  obtain ⟨ut, uq, ul⟩ := u
  simp only at h1 h2 hn hm ⊢
  have HB2 := Lib.hid (two_below w (.cells #[.int .i64 et, .int .i64 eq, .slice a1 n c1] 44) (.cells #[.int .i64 ut, .int .i64 uq, .slice a2 m c2] 44))
  have HK := Lib.hid (fun W (hb : Below w.heap.size w W) => equal_any a1 a2 n m c1 c2 el ul W (h1.later hb) (h2.later hb) hn hm)
  clear h1 h2 hn hm
  go_enter Try.func50, Try.ntmps50
  cases e1 : (et == ut) with
  | false =>
    go_wp2_with fail
    go_ret
    exact ⟨ret_bool (by simp only [Bool.false_and]), HB2.out⟩
  | true =>
    cases e2 : (eq == uq) with
    | false =>
      go_wp2_with fail
      go_ret
      exact ⟨ret_bool (by simp only [Bool.true_and, Bool.false_and]), HB2.out⟩
    | true =>
      go_wp2_with (go_at_call 32; refine (HK.out _ HB2.out).mono ?_; rintro e w6 ⟨rfl, rfl⟩)
      go_ret
      exact ⟨ret_bool (by simp only [Bool.true_and]), HB2.out⟩
set_option maxRecDepth 20000 in
set_option maxHeartbeats 6400000 in
theorem eEqual_any (a1 a2 : Option Addr) (n m c1 c2 : Nat) (es us : List En) (w : World) (h1 : ERow w a1 c1 es) (h2 : ERow w a2 c2 us) (hn : es.length = n) (hm : us.length = m) :
    Calls Try.prog 49 #[.slice a1 n c1, .slice a2 m c2, .func (.func 50) #[] #[]] w fun e w' => e = .returned (.bool (decide (es = us))) ∧ Below w.heap.size w w' := by
  have H1 := Lib.hid h1
  have H2 := Lib.hid h2
  have HN := Lib.hid hn
  have HM := Lib.hid hm
  have hc1 := h1.1
  have hc2 := h2.1
  rw [hn] at hc1
  rw [hm] at hc2
  have hcm1 : c1 ≤ 9223372036854775807 := by have := h1.2.1; unfold maxLen at this; omega
  have hcm2 : c2 ≤ 9223372036854775807 := by have := h2.2.1; unfold maxLen at this; omega
  clear h1 h2 hn hm
  by_cases hnm : n = m
  · subst hnm
    have hq : ((n : Int) != (n : Int)) = false := by simp
    go_enter Try.func49, Try.ntmps49
    go_wp2_with fail
    go_loopw [7, 8, 9, 17] (fun _ _ _ i wr => ∃ j : Nat, i = .int .i64 j ∧ j ≤ n ∧ Below w.heap.size w wr ∧ Hid (∀ k, k < j → es[k]? = us[k]?)) (fun _ _ _ i _ => n - (intOf i).toNat)
    case atStart => exact ⟨0, rfl, by omega, Below.refl _ _, Lib.hid (fun k h => by omega)⟩
    case round =>
      obtain ⟨j, rfl, hj, hb, HA⟩ := hrel
      have HB := Lib.hid hb
      clear hb
      by_cases hjn : (j : Int) < n
      · obtain ⟨e, he⟩ : ∃ e, es[j]? = some e := ⟨es[j]'(by have := HN.out; omega), List.getElem?_eq_getElem _⟩
        obtain ⟨u, hu⟩ : ∃ u, us[j]? = some u := ⟨us[j]'(by have := HM.out; omega), List.getElem?_eq_getElem _⟩
        obtain ⟨b1, o1, d1, k1, rfl, p0, p1, p2, R1⟩ := (H1.out.later HB.out).at he
        obtain ⟨L1, hL1⟩ : ∃ L, e.data.length = L := ⟨_, rfl⟩
        rw [hL1] at p2
        obtain ⟨L2, hL2⟩ : ∃ L, u.data.length = L := ⟨_, rfl⟩
        have HB1 := Lib.hid ((Below.refl wr.heap.size wr).alloc (Nat.le_refl _) (.cells #[.int .i64 e.tag, .int .i64 e.seq, .slice d1 L1 k1] 44))
        obtain ⟨b2, o2, d2, k2, rfl, q0, q1, q2, R2⟩ := (H2.out.later (HB.out.trans (HB1.out.mono HB.out.size))).at hu
        rw [hL2] at q2
        have HB2 := Lib.hid (two_below wr (.cells #[.int .i64 e.tag, .int .i64 e.seq, .slice d1 L1 k1] 44) (.cells #[.int .i64 u.tag, .int .i64 u.seq, .slice d2 L2 k2] 44))
        have HB3 := Lib.hid (HB.out.trans (HB2.out.mono HB.out.size))
        have HK := Lib.hid (sameEn_any e u d1 d2 L1 L2 k1 k2 _ (R1.later HB2.out) (R2.later ((Below.refl _ _).alloc (Nat.le_refl _) (.cells #[.int .i64 u.tag, .int .i64 u.seq, .slice d2 L2 k2] 44))) hL1 hL2)
        have HNO := Lib.hid (en_no he hu)
        have HYE := Lib.hid (fun h => en_more he hu h HA.out)
        generalize decide (e = u) = D at *
        clear he hu R1 R2 hL1 hL2
        generalize e.tag = T1 at *
        generalize u.tag = T2 at *
        generalize e.seq = Z1 at *
        generalize u.seq = Z2 at *
        cases D with
        | false =>
          have HF := Lib.hid (HNO.out rfl)
          go_wp2_with (refine HK.out.mono ?_; rintro e w6 ⟨rfl, hb6⟩; have HB6 := Lib.hid (HB3.out.trans (hb6.mono HB3.out.size)); clear hb6)
          go_ret
          exact ⟨ret_bool HF.out.symm, HB6.out⟩
        | true =>
          have HA2 := Lib.hid (HYE.out rfl)
          go_wp2_with (refine HK.out.mono ?_; rintro e w6 ⟨rfl, hb6⟩; have HB6 := Lib.hid (HB3.out.trans (hb6.mono HB3.out.size)); clear hb6)
          go_roundw
          case rel => exact ⟨j + 1, by go_num, by omega, HB6.out, HA2⟩
          case measure => simp [intOf]; omega
      · have : j = n := by omega
        subst this
        have HF := Lib.hid (sameG_yes HN.out HM.out HA.out)
        go_wp2_with fail
        go_ret
        exact ⟨ret_bool HF.out.symm, HB.out⟩
  · have hq : ((n : Int) != (m : Int)) = true := by simp; omega
    have HF : Hid (decide (es = us) = false) := Lib.hid (by rw [decide_eq_false_iff_not]; intro e; rw [e, HM.out] at HN; exact hnm HN.out.symm)
    clear hnm
    go_enter Try.func49, Try.ntmps49
    go_wp2_with fail
    go_ret
    exact ⟨ret_bool HF.out.symm, Below.refl _ _⟩

/-! ### a message as a value -/
/-- Where a message's lists lie. -/
structure MsAt where
  ac : Option Addr
  nc : Nat
  cc : Nat
  ae : Option Addr
  ne : Nat
  ce : Nat
  am : Option Addr
  nm : Nat
  cm : Nat
  ad : Option Addr
  nd : Nat
  cd : Nat
structure MsRows (w : World) (m : Ms) (p : MsAt) : Prop where
  c : TRow w p.ac p.cc m.chain
  e : ERow w p.ae p.ce m.ents
  t : MRow w p.am p.cm m.marks
  d : Row w p.ad p.cd m.data
  hc : m.chain.length = p.nc
  he : m.ents.length = p.ne
  ht : m.marks.length = p.nm
  hd : m.data.length = p.nd
theorem MsRows.later {w w' : World} {m : Ms} {p : MsAt} (h : MsRows w m p) (hb : Below w.heap.size w w') : MsRows w' m p := ⟨h.c.later hb, h.e.later hb, h.t.later hb, h.d.later hb, h.hc, h.he, h.ht, h.hd⟩
abbrev msC (m : Ms) (p : MsAt) : Array Value := #[.int .i64 m.kind, .int .i64 m.nonce, .int .i64 m.pos, .int .i64 m.fin, .int .i64 m.stage, .int .i64 m.num, .slice p.ac p.nc p.cc, .slice p.ae p.ne p.ce, .slice p.am p.nm p.cm, .slice p.ad p.nd p.cd]
abbrev msV (m : Ms) (p : MsAt) : Value := .agg #[.int .i64 m.kind, .int .i64 m.nonce, .int .i64 m.pos, .int .i64 m.fin, .int .i64 m.stage, .int .i64 m.num, .slice p.ac p.nc p.cc, .slice p.ae p.ne p.ce, .slice p.am p.nm p.cm, .slice p.ad p.nd p.cd]
theorem RecAt.c10 {w : World} {x : Nat} {a b c d e f g h i j : Value} {t : TypeId} (k : RecAt w x #[a, b, c, d, e, f, g, h, i, j] t) : w.cell? ⟨x, 0, none⟩ = some a ∧ w.cell? ⟨x, 1, none⟩ = some b ∧ w.cell? ⟨x, 2, none⟩ = some c ∧ w.cell? ⟨x, 3, none⟩ = some d ∧ w.cell? ⟨x, 4, none⟩ = some e ∧ w.cell? ⟨x, 5, none⟩ = some f ∧ w.cell? ⟨x, 6, none⟩ = some g ∧ w.cell? ⟨x, 7, none⟩ = some h ∧ w.cell? ⟨x, 8, none⟩ = some i ∧ w.cell? ⟨x, 9, none⟩ = some j :=
  ⟨k.cell rfl, k.cell rfl, k.cell rfl, k.cell rfl, k.cell rfl, k.cell rfl, k.cell rfl, k.cell rfl, k.cell rfl, k.cell rfl⟩
theorem two_recsM (w : World) (cs ds : Array Value) (t u : TypeId) : RecAt ((w.alloc (.cells cs t)).alloc (.cells ds u)) w.heap.size cs t ∧ RecAt ((w.alloc (.cells cs t)).alloc (.cells ds u)) (w.heap.size + 1) ds u ∧ Below w.heap.size w ((w.alloc (.cells cs t)).alloc (.cells ds u)) := by
  have h1 := RecAt.new w cs t
  have h2 := RecAt.new (w.alloc (.cells cs t)) ds u
  rw [show (w.alloc (.cells cs t)).heap.size = w.heap.size + 1 by simp] at h2
  exact ⟨h1.later ((Below.refl _ _).alloc (Nat.le_refl _) _), h2, two_below w _ _⟩
theorem ms_eq_iff (m g : Ms) : decide (m = g) = ((m.kind == g.kind) && ((m.nonce == g.nonce) && ((m.pos == g.pos) && ((m.fin == g.fin) && ((m.stage == g.stage) && ((m.num == g.num) && (decide (m.chain = g.chain) && (decide (m.ents = g.ents) && (decide (m.marks = g.marks) && decide (m.data = g.data)))))))))) := by
  obtain ⟨⟩ := m
  obtain ⟨⟩ := g
  rw [Bool.eq_iff_iff]
  simp only [Bool.and_eq_true, beq_iff_eq, decide_eq_true_eq, Ms.mk.injEq]
end Go.Proofs.Ytiahifpbofkimaa
