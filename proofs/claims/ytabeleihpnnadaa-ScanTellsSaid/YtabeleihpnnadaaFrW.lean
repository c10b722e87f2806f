/- Frames: All, rows, Seek, which entries are the same. -/
import Derived.Test.YtabeleihpnnadaaFrV
import Derived.Test.YtabeleihpnnadaaFrE
import Derived.BigQuiet
namespace Go.Proofs.Ytabeleihpnnadaa
open Go.RowKit
set_option linter.unusedVariables false
set_option linter.unusedSimpArgs false

theorem EOwn.lt {W0 w : World} {v : Value} {es : List En} (h : EOwn W0 w v es) {k : Nat} (hk : v.ownBlock = some k) : W0.heap.size ≤ k ∧ k < w.heap.size := by
  obtain ⟨cs, h1, _, _⟩ := h
  exact World.ownsRow.lt h1 k hk

theorem takeM_two (M : List UInt8) : (∃ c, takeM M = (noE, 0, c) ∧ c ≠ 0) ∨ ∃ e, takeM M = (e, e.data.length + 22, 0) ∧ e.right = true ∧ e.data.length + 22 ≤ M.length := by
  rcases takeM_cases M with h | h | h | h
  · exact .inl ⟨4, h.1, by decide⟩
  · exact .inl ⟨2, h, by decide⟩
  · exact .inl ⟨13, h, by decide⟩
  · exact .inr h
theorem takeA_err {l : List UInt8} {q : Nat} {c : Int} (hq : q ≤ l.length) (h : takeM (l.drop q) = (noE, 0, c)) (hc : c ≠ 0) : takeA l q = (noE, 0, c) := by
  rw [takeA_in hq, h]; simp only; rw [if_neg hc]
theorem takeA_ok {l : List UInt8} {q n : Nat} {e : En} (hq : q ≤ l.length) (h : takeM (l.drop q) = (e, n, 0)) : takeA l q = (e, ((q + n : Nat) : Int), 0) := by
  rw [takeA_in hq, h]; simp

set_option maxRecDepth 20000 in
set_option maxHeartbeats 3200000 in
theorem all_any (ad : Option Addr) (m cap : Nat) (l : List UInt8) (w : World) (hr : Row w ad cap l) (hm : l.length = m) (hlen : m ≤ 100000) :
    Calls Try.prog 28 #[.slice ad m cap] w fun e w' => ∃ v, e = .returned (.tuple #[v, .int .i64 ((allA l).2 : Nat)]) ∧ EOwn w w' v (allA l).1 := by
  have HR := Lib.hid hr
  have HM := Lib.hid hm
  clear hr hm
  go_enter Try.func28, Try.ntmps28
  go_wp2_with fail
  go_loopw [4, 5] (fun v p wr => ∃ (q f : Nat) (es : List En), p = .int .i64 q ∧ q ≤ m ∧ m < q + f ∧ es.length ≤ q ∧ EOwn w wr v es ∧ Hid (allA l = (es ++ (allF f l q).1, (allF f l q).2))) (fun _ p _ => m - (intOf p).toNat)
  case atStart => exact ⟨0, m + 1, [], rfl, by omega, by omega, by simp, EOwn.nil w, Lib.hid (by unfold allA; rw [HM.out]; rfl)⟩
  case round =>
    obtain ⟨q, f, es, rfl, hq, hf, hes, o, HA⟩ := hrel
    have hql : q ≤ l.length := by have := HM.out; omega
    have HK := Lib.hid (take_any ad m cap l q wr (HR.out.later o.below) HM.out hlen (by omega) (by omega))
    rcases takeM_two (l.drop q) with ⟨c, h1, hc⟩ | ⟨e, h1, h2, h3⟩
    · rw [takeA_err hql h1 hc] at HK
      have HA2 : Hid (allA l = (es, q)) := by
        rw [HA.out, allF_end (by rw [h1]; exact hc)]; exact Lib.hid (by simp)
      have hcb : (c == 0) = false := beq_eq_false_iff_ne.2 hc
      clear h1 HA
      go_wp2_with fail
      refine HK.out.mono ?_
      rintro e1 w1 ⟨a, cc, rfl, hr1, hb1, hx1⟩
      unfold entV noE
      simp only [List.length_nil]
      have o1 := o.later hb1
      go_wp2_with fail
      go_ret2
      rw [HA2.out]
      exact ⟨_, rfl, o1.later ((Below.refl _ _).alloc (Nat.le_refl _) _)⟩
    · rw [takeA_ok hql h1] at HK
      obtain ⟨f, rfl⟩ : ∃ g, f = g + 1 := ⟨f - 1, by omega⟩
      have HG := Lib.hid (allF_go (f := f) h1)
      have hn0 := (rightE_iff.1 h2).2.2.2.2
      have hle : q + (e.data.length + 22) ≤ m := by have := HM.out; simp at h3; omega
      clear h1 h2 h3 hql
      obtain ⟨n, hn⟩ : ∃ n, e.data.length = n := ⟨_, rfl⟩
      rw [hn] at hle hn0 HG
      have HN := Lib.hid hn
      obtain ⟨Q, hQ⟩ : ∃ Q, q + (n + 22) = Q := ⟨_, rfl⟩
      rw [hn, hQ] at HK
      rw [hQ] at hle HG
      have hqQ : q < Q := by omega
      clear hn hQ
      go_wp2_with fail
      refine HK.out.mono ?_
      rintro e1 w1 ⟨a, c, rfl, hr1, hb1, hx1⟩
      unfold entV
      simp only
      rw [HN.out]
      have o1 := o.later hb1
      have hr2 : Row w1 a c e.data := hr1
      have hba : Below w1.heap.size w1 (w1.alloc (.cells #[.int .i64 e.tag, .int .i64 e.seq, .slice a n c] 38)) := (Below.refl _ _).alloc (Nat.le_refl _) _
      have HAD : Hid (∀ y, a = some y → y.block < (w1.alloc (.cells #[.int .i64 e.tag, .int .i64 e.seq, .slice a n c] 38)).heap.size ∧ u4.ownBlock ≠ some y.block) := Lib.hid fun y hy => by
        subst hy
        refine ⟨Nat.lt_of_lt_of_le (hr2.lt_of (by have := HN.out; omega)) hba.size, fun he => ?_⟩
        have h1 := (o.lt he).2
        have h2 := hx1 y rfl
        omega
      have O2 := Lib.hid (o1.later hba)
      have R2 := Lib.hid (hr2.later hba)
      have HE2 := Lib.hid (RecAt.new w1 #[.int .i64 e.tag, .int .i64 e.seq, .slice a n c] 38)
      clear HK o hb1 hx1 hr1 hr2 o1 hba
      go_upto_region 6 with fail
      generalize (w1.alloc (.cells #[.int .i64 e.tag, .int .i64 e.seq, .slice a n c] 38)) = w2 at *
      generalize w1.heap.size = E at *
      obtain ⟨c0, c1, c2⟩ := HE2.out.c3
      go_wp2_with (at_builtin; refine wp_ent rfl _ _ rfl u4 es rfl w O2.out e a n c HN.out R2.out HAD.out rfl (by omega) ?_; intro v9 w9 o9)
      go_roundw
      case rel => exact ⟨Q, f, es ++ [e], by go_num, by omega, by omega, by simp; omega, o9, Lib.hid (by rw [HA.out, HG.out]; simp)⟩
      case measure => simp [intOf]; omega
end Go.Proofs.Ytabeleihpnnadaa
