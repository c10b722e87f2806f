/- Scans: rows of rows of bytes that one reads; the program's entries, end, Ends, Torn, First. -/
import Derived.Test.YtabeleihpnnadaaScN
import Derived.Test.YtabeleihpnnadaaScPlain
import Derived.Test.YtabeleihpnnadaaGz
import Derived.BigQuiet
namespace Go.Proofs.Ytabeleihpnnadaa
open Go.RowKit Go.Proofs
set_option linter.unusedVariables false
set_option linter.unusedSimpArgs false
set_option linter.unnecessarySimpa false

/-! ### plain -/
theorem allF_len : ∀ (f : Nat) (l : List UInt8) (p : Nat), p ≤ l.length → (allF f l p).1.length + p ≤ l.length
  | 0, l, p, hp => by simp [allF]; exact hp
  | f + 1, l, p, hp => by
    rw [allF]
    split
    · rename_i c
      have h1 := takeM_adv _ c
      rw [List.length_drop] at h1
      have := allF_len f l (p + (takeM (l.drop p)).2.1) (by omega)
      simp only [List.length_cons]; omega
    · simp only [List.length_nil]; omega
theorem allA_len (l : List UInt8) : (allA l).1.length ≤ l.length := by have := allF_len (l.length + 1) l 0 (by omega); unfold allA; omega
theorem allF_right : ∀ (f : Nat) (l : List UInt8) (p : Nat), ∀ e ∈ (allF f l p).1, e.right = true
  | 0, l, p, e, he => by simp [allF] at he
  | f + 1, l, p, e, he => by
    rw [allF] at he
    split at he
    · rename_i c
      rcases List.mem_cons.1 he with rfl | he
      · rcases takeM_two (l.drop p) with ⟨c2, h1, hc⟩ | ⟨e, h1, h2, h3⟩
        · rw [h1] at c; exact absurd c hc
        · rw [h1]; exact h2
      · exact allF_right f l _ e he
    · cases he
theorem allA_right (l : List UInt8) : ∀ e ∈ (allA l).1, e.right = true := allF_right _ _ _
theorem entsS_right (rows : List (List UInt8)) : ∀ e ∈ entsS rows, e.right = true := fun e he => by
  obtain ⟨l, _, h⟩ := List.mem_flatMap.1 he
  exact allA_right l e h
theorem entsS_snoc {rows : List (List UInt8)} {j : Nat} {l : List UInt8} (h : rows[j]? = some l) : entsS (rows.take (j + 1)) = entsS (rows.take j) ++ (allA l).1 := by
  obtain ⟨hj, rfl⟩ := List.getElem?_eq_some_iff.1 h
  unfold entsS
  rw [List.take_succ_eq_append_getElem hj, List.flatMap_append]
  simp
theorem entsS_len {rows : List (List UInt8)} {B : Nat} (h : ∀ l ∈ rows, l.length ≤ B) : ∀ j, (entsS (rows.take j)).length ≤ B * j
  | 0 => by simp [entsS]
  | j + 1 => by
    have ih := entsS_len h j
    cases hj : rows[j]? with
    | none =>
      have : rows.length ≤ j := List.getElem?_eq_none_iff.1 hj
      rw [List.take_of_length_le (by omega)]
      rw [List.take_of_length_le this] at ih
      rw [Nat.mul_add]; omega
    | some l =>
      have h1 := h l (List.mem_of_getElem? hj)
      have h2 := allA_len l
      rw [entsS_snoc hj, List.length_append, Nat.mul_add]; omega
/-- The bytes of the first entries whose numbers are at most 'last'. -/
def sumE (es : List En) (last : Int) : Nat := ((es.takeWhile fun e => decide (e.seq ≤ last)).map fun e => e.data.length + 22).sum
theorem sumE_nil (last : Int) : sumE [] last = 0 := rfl
theorem sumE_go {e : En} {es : List En} {last : Int} (h : e.seq ≤ last) : sumE (e :: es) last = e.data.length + 22 + sumE es last := by
  unfold sumE; rw [List.takeWhile_cons, decide_eq_true h]; simp
theorem sumE_no {e : En} {es : List En} {last : Int} (h : ¬ e.seq ≤ last) : sumE (e :: es) last = 0 := by
  unfold sumE; rw [List.takeWhile_cons, decide_eq_false h]; simp
theorem endF_sum : ∀ (f : Nat) (l : List UInt8) (p : Nat) (last : Int), endF f l p last = p + sumE (allF f l p).1 last
  | 0, l, p, last => by simp [endF, allF, sumE_nil]
  | f + 1, l, p, last => by
    rcases takeM_two (l.drop p) with ⟨c2, h1, hc⟩ | ⟨e, h1, h2, h3⟩
    · rw [endF_no (by rw [h1]; exact fun c => hc c.1), allF_end (by rw [h1]; exact hc)]; simp [sumE_nil]
    · rw [allF_go h1]
      simp only
      by_cases c : e.seq ≤ last
      · rw [endF_go h1 c, sumE_go c, endF_sum f]; omega
      · rw [endF_no (by rw [h1]; exact fun x => c x.2), sumE_no c]; omega
theorem endA_sum (l : List UInt8) (last : Int) : endA l last = sumE (allA l).1 last := by unfold endA allA; rw [endF_sum]; omega

/-! ### a row of rows that one reads -/
def SRow (w : World) (a : Option Addr) (cap : Nat) (rows : List (List UInt8)) : Prop :=
  rows.length ≤ cap ∧ cap ≤ maxLen ∧ (a = none → cap = 0) ∧ ∀ x, a = some x → ∀ (i : Nat) l, rows[i]? = some l → x.spot = .none ∧ ∃ a1 c1, w.cell? ⟨x.block, x.off + i, .none⟩ = some (.slice a1 l.length c1) ∧ Row w a1 c1 l
theorem RowE.srow {w : World} {a : Option Addr} {cap : Nat} {rows : List (List UInt8)} (h : RowE w 1 (BytesE w) a cap rows) : SRow w a cap rows := by
  refine ⟨h.1, h.2.1, h.2.2.1, fun x hx i l hl => ?_⟩
  have hsp : x.spot = none := by
    have hi := (List.getElem?_eq_some_iff.1 hl).1
    obtain ⟨v0, hc0, _⟩ := h.one hx (List.getElem?_eq_getElem (l := rows) (i := 0) (by omega))
    have e0 : x.add 0 = x := by unfold Addr.add; obtain ⟨b, o, s⟩ := x; cases s <;> simp_all
    rw [e0] at hc0
    exact World.cell?_spot hc0
  obtain ⟨v, hc, a1, c1, hv, hr⟩ := h.one hx hl
  cases hv
  obtain ⟨b, o, s⟩ := x
  simp only at hsp
  subst hsp
  rw [show (⟨b, o, none⟩ : Addr).add i = ⟨b, o + i, none⟩ from by unfold Addr.add; split <;> simp_all] at hc
  exact ⟨rfl, a1, c1, hc, hr⟩
theorem SRow.later {w w' : World} {a : Option Addr} {cap : Nat} {rows : List (List UInt8)} (h : SRow w a cap rows) (hb : Below w.heap.size w w') : SRow w' a cap rows := by
  refine ⟨h.1, h.2.1, h.2.2.1, fun x hx i l hl => ?_⟩
  obtain ⟨hs, a1, c1, hc, hr⟩ := h.2.2.2 x hx i l hl
  exact ⟨hs, a1, c1, by rw [hb.cell (World.block_lt_of_cell? w _ hc)]; exact hc, hr.later hb⟩
theorem SRow.at {w : World} {a : Option Addr} {cap : Nat} {rows : List (List UInt8)} (h : SRow w a cap rows) {i : Nat} {l : List UInt8} (hl : rows[i]? = some l) :
    ∃ b off a1 c1, a = some ⟨b, off, .none⟩ ∧ w.cell? ⟨b, off + i, .none⟩ = some (.slice a1 l.length c1) ∧ Row w a1 c1 l := by
  cases a with
  | none =>
    have := h.2.2.1 rfl
    have := h.1
    have := (List.getElem?_eq_some_iff.1 hl).1
    omega
  | some x =>
    obtain ⟨hs, a1, c1, hc, hr⟩ := h.2.2.2 x rfl i l hl
    obtain ⟨b, off, sp⟩ := x
    simp only at hs
    subst hs
    exact ⟨b, off, a1, c1, rfl, hc, hr⟩
theorem SRow.nil (w : World) : SRow w .none 0 [] := ⟨by simp, by simp [maxLen], fun _ => rfl, fun x h => by cases h⟩
theorem SRow.take {w : World} {a : Option Addr} {cap : Nat} {rows : List (List UInt8)} (h : SRow w a cap rows) (k : Nat) : SRow w a cap (rows.take k) := by
  refine ⟨by have := h.1; simp; omega, h.2.1, h.2.2.1, fun x hx i l hl => h.2.2.2 x hx i l ?_⟩
  rw [List.getElem?_take] at hl
  split at hl
  · exact hl
  · cases hl
theorem srow_none {w : World} {cap : Nat} {rows : List (List UInt8)} (h : SRow w none cap rows) : rows = [] ∧ cap = 0 := by
  have h1 := h.2.2.1 rfl
  exact ⟨List.length_eq_zero_iff.1 (by have := h.1; omega), h1⟩
/-- Rows few and short. -/
def SB (rows : List (List UInt8)) : Prop := rows.length ≤ 100 ∧ ∀ l ∈ rows, l.length ≤ 10000

set_option maxRecDepth 20000 in
set_option maxHeartbeats 3200000 in
theorem entries_any (a : Option Addr) (n cap : Nat) (rows : List (List UInt8)) (w : World) (hr : SRow w a cap rows) (hn : rows.length = n) (hb : SB rows) :
    Calls Try.prog 22 #[.slice a n cap] w fun e w' => ∃ v, e = .returned v ∧ OE (fromJ w) w w' v (entsS rows) := by
  have HR := Lib.hid hr
  have HN := Lib.hid hn
  have HB := Lib.hid hb
  have hn100 : n ≤ 100 := by have := hb.1; omega
  clear hr hn hb
  go_enter Try.func22, Try.ntmps22
  go_wp2_with fail
  go_loopw [3, 10] (fun v i wr => ∃ (j : Nat) (es : List En), i = .int .i64 j ∧ j ≤ n ∧ es.length ≤ 10000 * j ∧ OE (fromJ w) w wr v es ∧ Hid (es = entsS (rows.take j))) (fun _ i _ => n - (intOf i).toNat)
  case atStart => exact ⟨0, [], rfl, by omega, by simp, NOwn.nil' (Below.refl _ _), Lib.hid rfl⟩
  case round =>
    obtain ⟨j, es, rfl, hj, hes, o, HE⟩ := hrel
    by_cases hjn : (j : Int) < n
    · obtain ⟨l, hl⟩ : ∃ l, rows[j]? = some l := ⟨rows[j]'(by have := HN.out; omega), List.getElem?_eq_getElem _⟩
      obtain ⟨b1, o1, a1, c1, rfl, p0, R1⟩ := (HR.out.later o.below).at hl
      have hll := HB.out.2 l (List.mem_of_getElem? hl)
      have HS := Lib.hid (entsS_snoc hl)
      have hal := allA_len l
      obtain ⟨m, hm⟩ : ∃ m, l.length = m := ⟨_, rfl⟩
      rw [hm] at p0 hll hal
      have HK := Lib.hid (all_new a1 m c1 l wr R1 hm (by omega))
      obtain ⟨us, hus⟩ : ∃ us, (allA l).1 = us := ⟨_, rfl⟩
      rw [hus] at HK hal HS
      clear hl hm hus R1
      have HO := Lib.hid o
      clear o
      go_wp2_with fail
      refine HK.out.mono ?_
      rintro e1 w1 ⟨v1, rfl, o1⟩
      obtain ⟨m1, hm1⟩ : ∃ m1, us.length = m1 := ⟨_, rfl⟩
      obtain ⟨a2, c2, rfl⟩ := o1.val enT_ok hm1
      have HX : Hid (NRow (lessJ (fromJ w) u3) 3 38 26 EnR w1 (.slice a2 m1 c2) us) := Lib.hid (NRow.weak en_rel (o1.row enT_ok en_rel (fromJ_new _)) fun b _ hb => ⟨Nat.le_trans HO.out.below.size hb, HO.out.ne_old hb⟩)
      have HO1 := Lib.hid (HO.out.later en_rel o1.below)
      clear o1 p0 HK
      go_wp2_with (at_builtin; refine wp_nons enT_ok en_rel rfl _ _ rfl u3 es rfl w HO1.out us a2 m1 c2 rfl HX.out (by omega) ?_; intro v9 w9 o9 _)
      go_roundw
      case rel => exact ⟨j + 1, es ++ us, by go_num, by omega, by rw [List.length_append]; omega, o9, Lib.hid (by rw [HS.out, HE.out])⟩
      case measure => simp [intOf]; omega
    · have HF : Hid (es = entsS rows) := Lib.hid (by rw [HE.out, List.take_of_length_le (by have := HN.out; omega)])
      go_wp2_with fail
      go_ret
      exact ⟨_, rfl, by rw [← HF.out]; exact o⟩

set_option maxRecDepth 20000 in
set_option maxHeartbeats 3200000 in
theorem end_any (a : Option Addr) (m cap : Nat) (l : List UInt8) (last : Int) (w : World) (hr : Row w a cap l) (hm : l.length = m) (hlen : m ≤ 10000) :
    Calls Try.prog 23 #[.slice a m cap, .int .i64 last] w fun e w' => e = .returned (.int .i64 (endA l last : Nat)) ∧ Below w.heap.size w w' := by
  have HK := Lib.hid (all_new a m cap l w hr hm (by omega))
  have HE := Lib.hid (endA_sum l last)
  have HRI := Lib.hid (allA_right l)
  have hal := allA_len l
  rw [hm] at hal
  obtain ⟨es, hes⟩ : ∃ es, (allA l).1 = es := ⟨_, rfl⟩
  rw [hes] at HK HE HRI hal
  clear hr hm hes
  go_enter Try.func23, Try.ntmps23
  go_wp2_with fail
  refine HK.out.mono ?_
  rintro e1 w1 ⟨v1, rfl, o1⟩
  obtain ⟨N, hN⟩ : ∃ N, es.length = N := ⟨_, rfl⟩
  rw [hN] at hal
  have HN := Lib.hid hN
  obtain ⟨a2, c2, rfl⟩ := o1.val enT_ok hN
  have HO := Lib.hid (o1.row enT_ok en_rel (fromJ_new _)).erow.2
  have HB := Lib.hid o1.below
  have hcap := HO.out.1
  rw [hN] at hcap
  clear o1 HK hN
  go_wp2_with fail
  go_loopw [7, 17] (fun q i wr => ∃ (j k : Nat), i = .int .i64 j ∧ q = .int .i64 k ∧ j ≤ N ∧ k ≤ 112 * j ∧ Below w1.heap.size w1 wr ∧ Hid (sumE es last = k + sumE (es.drop j) last)) (fun _ i _ => N - (intOf i).toNat)
  case atStart => exact ⟨0, 0, rfl, rfl, by omega, by omega, Below.refl _ _, Lib.hid (by simp)⟩
  case round =>
    obtain ⟨j, k, rfl, rfl, hj, hk, hb, HS⟩ := hrel
    have HB2 := Lib.hid hb
    clear hb
    by_cases hjn : (j : Int) < N
    · have hjl : j < es.length := by have := HN.out; omega
      obtain ⟨e, he⟩ : ∃ e, es[j]? = some e := ⟨es[j], List.getElem?_eq_getElem _⟩
      have hri := rightE_iff.1 (HRI.out e (List.mem_of_getElem? he))
      have hdr : es.drop j = e :: es.drop (j + 1) := by rw [List.drop_eq_getElem_cons hjl, (List.getElem?_eq_some_iff.1 he).2]
      rw [hdr] at HS
      obtain ⟨b3, o3, a3, c3, rfl, p0, p1, p2, R3⟩ := (HO.out.later HB2.out).at he
      clear hdr he R3
      have hd0 := hri.2.2.2.2.2
      have hrs := hri.2.2.1
      have hrt := hri.2.2.2.1
      clear hri
      by_cases hc : e.seq ≤ last
      · rw [sumE_go hc] at HS
        have hcd : decide (e.seq > last) = false := decide_eq_false (by omega)
        generalize e.data.length = L at *
        generalize e.seq = T at *
        generalize e.tag = T2 at *
        go_wp2_with (go_at_call 29; refine (size_any _ _).mono ?_; rintro e6 w6 ⟨rfl, rfl⟩)
        go_roundw
        case rel => exact ⟨j + 1, k + (L + 22), by go_num, congrArg (Value.int IntKind.i64) (by omega), by omega, by omega, HB2.out.alloc HB2.out.size _, Lib.hid (by rw [HS.out]; omega)⟩
        case measure => simp [intOf]; omega
      · rw [sumE_no hc] at HS
        have hcd : decide (e.seq > last) = true := decide_eq_true (by omega)
        generalize e.data.length = L at *
        generalize e.seq = T at *
        generalize e.tag = T2 at *
        go_wp2_with fail
        go_ret
        exact ⟨by rw [HE.out, HS.out]; rfl, HB.out.trans ((HB2.out.alloc HB2.out.size _).mono HB.out.size)⟩
    · have HF : Hid (sumE es last = k) := Lib.hid (by rw [HS.out, List.drop_of_length_le (by have := HN.out; omega)]; rfl)
      go_wp2_with fail
      go_ret
      exact ⟨by rw [HE.out, HF.out]; rfl, HB.out.trans (HB2.out.mono HB.out.size)⟩
end Go.Proofs.Ytabeleihpnnadaa
