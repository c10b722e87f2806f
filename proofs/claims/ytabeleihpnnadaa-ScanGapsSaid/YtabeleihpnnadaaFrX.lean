/- Frames: which entries are the same. -/
import Derived.Test.YtabeleihpnnadaaFrW
namespace Go.Proofs.Ytabeleihpnnadaa
open Go.RowKit
set_option linter.unusedVariables false
set_option linter.unusedSimpArgs false

set_option maxRecDepth 20000 in
set_option maxHeartbeats 3200000 in
theorem frsame_any (a1 a2 : Option Addr) (n c1 c2 : Nat) (es : List En) (w : World) (h1 : ERow w a1 c1 es) (h2 : ERow w a2 c2 es) (hn : es.length = n) (hlen : n ≤ 100000) :
    Calls Try.prog 10 #[.slice a1 n c1, .slice a2 n c2] w fun e w' => e = .returned (.bool true) ∧ Below w.heap.size w w' := by
  have H1 := Lib.hid h1
  have H2 := Lib.hid h2
  have HN := Lib.hid hn
  have hc1 := h1.1
  have hc2 := h2.1
  rw [hn] at hc1 hc2
  clear h1 h2 hn
  go_enter Try.func10, Try.ntmps10
  go_wp2_with fail
  go_loopw [5] (fun i wr => ∃ j : Nat, i = .int .i64 j ∧ j ≤ n ∧ Below w.heap.size w wr) (fun i _ => n - (intOf i).toNat)
  case atStart => exact ⟨0, rfl, by omega, Below.refl _ _⟩
  case round =>
    obtain ⟨j, rfl, hj, hb⟩ := hrel
    have HB := Lib.hid hb
    clear hb
    by_cases hjn : (j : Int) < n
    · obtain ⟨e, he⟩ : ∃ e, es[j]? = some e := ⟨es[j]'(by have := HN.out; omega), List.getElem?_eq_getElem _⟩
      obtain ⟨b1, o1, d1, k1, rfl, p0, p1, p2, R1⟩ := (H1.out.later HB.out).at he
      obtain ⟨b2, o2, d2, k2, rfl, q0, q1, q2, R2⟩ := (H2.out.later HB.out).at he
      have HC1 := fun nq => conv_row (R1.later (below_drewN wr nq))
      have HC2 := fun nq => conv_row (R2.later (below_drewN wr nq))
      generalize hS : (⟨e.data.toArray⟩ : ByteArray) = S at *
      have hbt : (e.tag == e.tag) = true := by simp
      have hbs : (e.seq == e.seq) = true := by simp
      clear hS R1 R2 he
      generalize e.tag = T at *
      generalize e.seq = Z at *
      generalize e.data.length = L at *
      go_upto_region 6 with fail
      go_quiet (fail)
      clear HC1 HC2
      go_wp2_with fail
      go_roundw
      case rel => exact ⟨j + 1, by go_num, by omega, HB.out.trans ((below_drewN _ _).mono HB.out.size)⟩
      case measure => simp [intOf]; omega
    · have : j = n := by omega
      go_wp2_with fail
      go_ret
      exact ⟨rfl, HB.out⟩

/-- Loads of one's own: the frames of entries that are right, one behind the other. -/
theorem rowL_snoc (es : List En) (j : Nat) (e : En) (he : es[j]? = some e) : rowL (es.take (j + 1)) = rowL (es.take j) ++ layL e := by
  obtain ⟨h, rfl⟩ := List.getElem?_eq_some_iff.1 he
  unfold rowL
  rw [List.take_succ_eq_append_getElem h, List.flatMap_append]
  simp
/-- What row makes of entries, right ones or not. -/
def rowA (es : List En) : List UInt8 := es.flatMap fun e => (layA e).1
theorem rowA_snoc (es : List En) (j : Nat) (e : En) (he : es[j]? = some e) : rowA (es.take (j + 1)) = rowA (es.take j) ++ (layA e).1 := by
  obtain ⟨h, rfl⟩ := List.getElem?_eq_some_iff.1 he
  unfold rowA
  rw [List.take_succ_eq_append_getElem h, List.flatMap_append]
  simp
theorem layA_len (e : En) : (layA e).1.length ≤ 112 := by
  cases h : e.right with
  | false => rw [layA_no h]; simp
  | true => rw [layA_yes h]; simp only; rw [layL_len]; have := rightE_iff.1 h; omega
theorem rowA_len (es : List En) : (rowA es).length ≤ 112 * es.length := by
  induction es with
  | nil => simp [rowA]
  | cons e es ih =>
    have := layA_len e
    unfold rowA at *
    rw [List.flatMap_cons, List.length_append, List.length_cons]
    omega

/-! ### Seek -/
theorem seekF_no {l : List UInt8} {f p : Nat} (h : frokAt l p = false) : seekF (f + 1) l p = seekF f l (p + 1) := by rw [seekF, h]; rfl
theorem seekF_yes {l : List UInt8} {f p : Nat} (h : frokAt l p = true) : seekF (f + 1) l p = p := by rw [seekF, if_pos h]

set_option maxRecDepth 20000 in
set_option maxHeartbeats 3200000 in
theorem rall_any (ad : Option Addr) (m cap : Nat) (l : List UInt8) (w : World) (hr : Row w ad cap l) (hm : l.length = m) (hlen : m ≤ 100000) :
    Calls Try.prog 20 #[.slice ad m cap] w fun e w' => ∃ v, e = .returned (.tuple #[v, .int .i64 ((allA l).2 : Nat)]) ∧ EOwn w w' v (allA l).1 := by
  have HR := Lib.hid hr
  have HM := Lib.hid hm
  clear hr hm
  go_enter Try.func20, Try.ntmps20
  go_wp2_with fail
  go_loopw [4, 5] (fun v p wr => ∃ (q f : Nat) (es : List En), p = .int .i64 q ∧ q ≤ m ∧ m < q + f ∧ es.length ≤ q ∧ EOwn w wr v es ∧ Hid (allA l = (es ++ (allF f l q).1, (allF f l q).2))) (fun _ p _ => m - (intOf p).toNat)
  case atStart => exact ⟨0, m + 1, [], rfl, by omega, by omega, by simp, EOwn.nil w, Lib.hid (by unfold allA; rw [HM.out]; rfl)⟩
  case round =>
    obtain ⟨q, f, es, rfl, hq, hf, hes, o, HA⟩ := hrel
    have hql : q ≤ l.length := by have := HM.out; omega
    by_cases hqm : (q : Int) < m
    · have HK := Lib.hid (rtake_any ad m cap l q wr (HR.out.later o.below) HM.out hlen (by omega) (by omega))
      rcases takeM_two (l.drop q) with ⟨c, h1, hc⟩ | ⟨e, h1, h2, h3⟩
      · rw [takeA_err hql h1 hc] at HK
        have HA2 : Hid (allA l = (es, q)) := by
          rw [HA.out, allF_end (by rw [h1]; exact hc)]; exact Lib.hid (by simp)
        have hcb : (c == 0) = false := beq_eq_false_iff_ne.2 hc
        clear h1 HA
        go_wp2_with fail
        refine HK.out.mono ?_
        rintro e1 w1 ⟨a, cc, rfl, hr1, hb1, hx1⟩
        unfold entV noE
        simp only [List.length_nil]
        have o1 := o.later hb1
        go_wp2_with fail
        go_ret2
        rw [HA2.out]
        exact ⟨_, rfl, o1.later ((Below.refl _ _).alloc (Nat.le_refl _) _)⟩
      · rw [takeA_ok hql h1] at HK
        obtain ⟨f, rfl⟩ : ∃ g, f = g + 1 := ⟨f - 1, by omega⟩
        have HG := Lib.hid (allF_go (f := f) h1)
        have hn0 := (rightE_iff.1 h2).2.2.2.2
        have hle : q + (e.data.length + 22) ≤ m := by have := HM.out; simp at h3; omega
        clear h1 h2 h3 hql
        obtain ⟨n, hn⟩ : ∃ n, e.data.length = n := ⟨_, rfl⟩
        rw [hn] at hle hn0 HG
        have HN := Lib.hid hn
        obtain ⟨Q, hQ⟩ : ∃ Q, q + (n + 22) = Q := ⟨_, rfl⟩
        rw [hn, hQ] at HK
        rw [hQ] at hle HG
        have hqQ : q < Q := by omega
        clear hn hQ
        go_wp2_with fail
        refine HK.out.mono ?_
        rintro e1 w1 ⟨a, c, rfl, hr1, hb1, hx1⟩
        unfold entV
        simp only
        rw [HN.out]
        have o1 := o.later hb1
        have hr2 : Row w1 a c e.data := hr1
        have hba : Below w1.heap.size w1 (w1.alloc (.cells #[.int .i64 e.tag, .int .i64 e.seq, .slice a n c] 38)) := (Below.refl _ _).alloc (Nat.le_refl _) _
        have HAD : Hid (∀ y, a = some y → y.block < (w1.alloc (.cells #[.int .i64 e.tag, .int .i64 e.seq, .slice a n c] 38)).heap.size ∧ u4.ownBlock ≠ some y.block) := Lib.hid fun y hy => by
          subst hy
          refine ⟨Nat.lt_of_lt_of_le (hr2.lt_of (by have := HN.out; omega)) hba.size, fun he => ?_⟩
          have h1 := (o.lt he).2
          have h2 := hx1 y rfl
          omega
        have O2 := Lib.hid (o1.later hba)
        have R2 := Lib.hid (hr2.later hba)
        have HE2 := Lib.hid (RecAt.new w1 #[.int .i64 e.tag, .int .i64 e.seq, .slice a n c] 38)
        clear HK o hb1 hx1 hr1 hr2 o1 hba
        go_upto_region 6 with fail
        generalize (w1.alloc (.cells #[.int .i64 e.tag, .int .i64 e.seq, .slice a n c] 38)) = w2 at *
        generalize w1.heap.size = E at *
        obtain ⟨c0, c1, c2⟩ := HE2.out.c3
        go_wp2_with (at_builtin; refine wp_ent rfl _ _ rfl u4 es rfl w O2.out e a n c HN.out R2.out HAD.out rfl (by omega) ?_; intro v9 w9 o9)
        go_roundw
        case rel => exact ⟨Q, f, es ++ [e], by go_num, by omega, by omega, by simp; omega, o9, Lib.hid (by rw [HA.out, HG.out]; simp)⟩
        case measure => simp [intOf]; omega
    · have HA2 : Hid (allA l = (es, q)) := by
        rw [HA.out, allF_end (take_end (by have := HM.out; omega))]; exact Lib.hid (by simp)
      go_wp2_with fail
      go_ret2
      rw [HA2.out]
      exact ⟨_, rfl, o⟩
end Go.Proofs.Ytabeleihpnnadaa
