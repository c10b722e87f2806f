/- Frames: the contracts of package frame and of the document's own. | Frames: what is taken. | Frames: Take. | Frames: rows of entries. -/
import Derived.Test.YtiahifpbofkimaaGB
import Derived.Test.YtiahifpbofkimaaRv
import Derived.Test.YtiahifpbofkimaaGC
import Derived.Test.YtiahifpbofkimaaGD
import Derived.Test.YtiahifpbofkimaaInts
import Derived.Test.YtiahifpbofkimaaRd
import Derived.Deep.RegionWith
import Derived.Deep.DeepCutAuto
import Derived.Maps.AppendAt
namespace Go.Proofs.Ytiahifpbofkimaa
open Go.RowKit
set_option linter.unusedVariables false

theorem rightE_no {t s : Int} {n : Nat} (h : ¬ (1 ≤ t ∧ t ≤ 1073741824 ∧ 1 ≤ s ∧ s ≤ 1099511627776 ∧ 1 ≤ n ∧ n ≤ 90)) : rightE t s n = false := by
  unfold rightE; exact decide_eq_false h

set_option maxHeartbeats 1000000 in
theorem frright_any (t s : Int) (a : Option Addr) (n c : Nat) (w : World) (hn : n ≤ 9223372036854775807) :
    Calls Try.prog 79 #[.agg #[.int .i64 t, .int .i64 s, .slice a n c]] w fun e w' => e = .returned (.bool (rightE t s n)) ∧ Below w.heap.size w w' := by
  by_cases h : 1 ≤ t ∧ t ≤ 1073741824 ∧ 1 ≤ s ∧ s ≤ 1099511627776 ∧ 1 ≤ n ∧ n ≤ 90
  · rw [rightE_iff.2 h]
    obtain ⟨h1, h2, h3, h4, h5, h6⟩ := h
    go_enter Try.func79, Try.ntmps79
    go_wp2
    go_ret
    exact ⟨ret_bool (by first | rfl | (simp; omega)), (Below.refl _ _).alloc (Nat.le_refl _) _⟩
  · rw [rightE_no h]
    rcases (show t < 1 ∨ (1 ≤ t ∧ 1073741824 < t) ∨ (1 ≤ t ∧ t ≤ 1073741824 ∧ s < 1) ∨ (1 ≤ t ∧ t ≤ 1073741824 ∧ 1 ≤ s ∧ 1099511627776 < s) ∨ (1 ≤ t ∧ t ≤ 1073741824 ∧ 1 ≤ s ∧ s ≤ 1099511627776 ∧ n < 1) ∨ (1 ≤ t ∧ t ≤ 1073741824 ∧ 1 ≤ s ∧ s ≤ 1099511627776 ∧ 1 ≤ n ∧ 90 < n) by omega) with h | h | h | h | h | h
    all_goals
      go_enter Try.func79, Try.ntmps79
      go_wp2
      go_ret
      exact ⟨ret_bool (by first | rfl | (simp; omega)), (Below.refl _ _).alloc (Nat.le_refl _) _⟩
set_option maxHeartbeats 1000000 in
theorem frrright_any (t s : Int) (a : Option Addr) (n c : Nat) (w : World) (hn : n ≤ 9223372036854775807) :
    Calls Try.prog 62 #[.agg #[.int .i64 t, .int .i64 s, .slice a n c]] w fun e w' => e = .returned (.bool (rightE t s n)) ∧ Below w.heap.size w w' := by
  by_cases h : 1 ≤ t ∧ t ≤ 1073741824 ∧ 1 ≤ s ∧ s ≤ 1099511627776 ∧ 1 ≤ n ∧ n ≤ 90
  · rw [rightE_iff.2 h]
    obtain ⟨h1, h2, h3, h4, h5, h6⟩ := h
    go_enter Try.func62, Try.ntmps62
    go_wp2
    go_ret
    exact ⟨ret_bool (by first | rfl | (simp; omega)), (Below.refl _ _).alloc (Nat.le_refl _) _⟩
  · rw [rightE_no h]
    rcases (show t < 1 ∨ (1 ≤ t ∧ 1073741824 < t) ∨ (1 ≤ t ∧ t ≤ 1073741824 ∧ s < 1) ∨ (1 ≤ t ∧ t ≤ 1073741824 ∧ 1 ≤ s ∧ 1099511627776 < s) ∨ (1 ≤ t ∧ t ≤ 1073741824 ∧ 1 ≤ s ∧ s ≤ 1099511627776 ∧ n < 1) ∨ (1 ≤ t ∧ t ≤ 1073741824 ∧ 1 ≤ s ∧ s ≤ 1099511627776 ∧ 1 ≤ n ∧ 90 < n) by omega) with h | h | h | h | h | h
    all_goals
      go_enter Try.func62, Try.ntmps62
      go_wp2
      go_ret
      exact ⟨ret_bool (by first | rfl | (simp; omega)), (Below.refl _ _).alloc (Nat.le_refl _) _⟩

theorem size_any (n : Int) (w : World) : Calls Try.prog 98 #[.int .i64 n] w fun e w' => e = .returned (.int .i64 (min (max n 0) 90 + 22)) ∧ w = w' := by
  rcases (show n < 0 ∨ (0 ≤ n ∧ 90 < n) ∨ (0 ≤ n ∧ n ≤ 90) by omega) with h | h | h
  all_goals
    go_enter Try.func98, Try.ntmps98
    go_wp2_with fail
    all_goals first
      | (go_ret; exact ⟨ret_int (by omega), rfl⟩)
      | (exfalso; omega)
set_option maxHeartbeats 400000 in
theorem number_any (a : Option Addr) (m cap : Nat) (l : List UInt8) (p k : Nat) (w : World) (hr : Row w a cap l) (hm : l.length = m) (hlen : m ≤ 100000) (hk : 1 ≤ k ∧ k ≤ 8) (hp : p + k ≤ m) :
    Calls Try.prog 101 #[.slice a m cap, .int .i64 p, .int .i64 k] w fun e w' => e = .returned (.int .i64 (wrap64 (fieldL l p k : Nat))) ∧ w = w' := by
  have HG : Hid (getA l p k = (fieldL l p k, true)) := by
    unfold Hid getA; rw [if_pos (by omega)]; rfl
  generalize fieldL l p k = G at HG ⊢
  go_enter Try.func101, Try.ntmps101
  go_wp2_with fail
  refine (get_any a m cap l p k w hr hm hlen (by omega) (by omega) (by omega) (by omega)).mono ?_
  rw [HG.out]
  rintro e w1 ⟨rfl, rfl⟩
  go_wp2_with fail
  go_ret
  exact ⟨rfl, rfl⟩

set_option maxHeartbeats 1600000 in
theorem lay_any (e : En) (a : Option Addr) (c n : Nat) (w : World) (hr : Row w a c e.data) (hn : e.data.length = n) (hn2 : n ≤ 9223372036854775807) :
    Calls Try.prog 56 #[.agg #[.int .i64 e.tag, .int .i64 e.seq, .slice a n c]] w fun x w' => ∃ v, x = .returned (.tuple #[v, .int .i64 (layA e).2]) ∧ Own w w' v (layA e).1 := by
  have HB : Hid (Below w.heap.size w (w.alloc (.cells #[.int .i64 e.tag, .int .i64 e.seq, .slice a n c] 44))) := Lib.hid ((Below.refl _ _).alloc (Nat.le_refl _) _)
  cases h : e.right with
  | false =>
    have HA := Lib.hid (layA_no h)
    unfold En.right at h
    rw [hn] at h
    have HH := Lib.hid h
    clear h
    go_enter Try.func56, Try.ntmps56
    go_wp2_with fail
    refine (frright_any _ _ _ _ _ _ (by omega)).mono ?_
    rw [HH.out]
    rintro x w1 ⟨rfl, hb1⟩
    go_wp2_with fail
    go_ret2
    rw [HA.out]
    exact ⟨_, rfl, World.ownsRow_nil _ _ _ _, HB.out.trans (hb1.mono HB.out.size)⟩
  | true =>
    have HA := Lib.hid (layA_yes h)
    have HE := Lib.hid (show layL e = sealL (((((hgje ++ putL e.tag.toNat 4) ++ putL e.seq.toNat 8) ++ putL e.data.length 2)) ++ e.data) from rfl)
    have hc := rightE_iff.1 h
    unfold En.right at h
    rw [hn] at h hc
    have HH := Lib.hid h
    have HR := Lib.hid (RecAt.new w #[.int .i64 e.tag, .int .i64 e.seq, .slice a n c] 44)
    have HL := Lib.hid hr
    clear hr h
    obtain ⟨t, s, d⟩ := e
    simp only at hc hn HR HB HL HH HE
    obtain ⟨t, rfl⟩ := Int.eq_ofNat_of_zero_le (show 0 ≤ t by omega)
    obtain ⟨s, rfl⟩ := Int.eq_ofNat_of_zero_le (show 0 ≤ s by omega)
    have HN := Lib.hid hn
    clear hn
    go_enter Try.func56, Try.ntmps56
    go_wp2_with fail
    refine (frright_any _ _ _ _ _ _ (by omega)).mono ?_
    rw [HH.out]
    rintro x w1 ⟨rfl, hb1⟩
    have HR1 := Lib.hid (HR.out.later hb1)
    have HB1 := Lib.hid (HB.out.trans (hb1.mono HB.out.size))
    obtain ⟨c0, c1, c2⟩ := HR1.out.c3
    go_wp2_with fail
    refine (put_any none 0 0 [] 1162495816 4 w1 (Row.none _) rfl (by omega) (by omega)).mono ?_
    rintro x w2 ⟨v2, rfl, o2⟩
    have HR2 := Lib.hid (HR1.out.later o2.below)
    have HB2 := Lib.hid (HB1.out.trans (o2.below.mono HB1.out.size))
    clear c0 c1 c2
    obtain ⟨c0, c1, c2⟩ := HR2.out.c3
    obtain ⟨a2, p2, rfl, r2⟩ := o2.row_n (n := 4) (by decide)
    clear o2
    go_wp2_with fail
    refine (put_any a2 4 p2 _ t 4 w2 r2 (by decide) (by omega) (by omega)).mono ?_
    rintro x w3 ⟨v3, rfl, o3⟩
    have e3 : putA (putA [] 1162495816 4) t 4 = hgje ++ putL t 4 := rfl
    rw [e3] at o3
    have HR3 := Lib.hid (HR2.out.later o3.below)
    have HB3 := Lib.hid (HB2.out.trans (o3.below.mono HB2.out.size))
    clear c0 c1 c2
    obtain ⟨c0, c1, c2⟩ := HR3.out.c3
    obtain ⟨a3, p3, rfl, r3⟩ := o3.row_n (n := 8) (by simp [hgje, putL_len])
    clear o3
    go_wp2_with fail
    refine (put_any a3 8 p3 _ s 8 w3 r3 (by simp [hgje, putL_len]) (by omega) (by omega)).mono ?_
    rintro x w4 ⟨v4, rfl, o4⟩
    have e4 : putA (hgje ++ putL t 4) s 8 = (hgje ++ putL t 4) ++ putL s 8 := rfl
    rw [e4] at o4
    have HR4 := Lib.hid (HR3.out.later o4.below)
    have HB4 := Lib.hid (HB3.out.trans (o4.below.mono HB3.out.size))
    clear c0 c1 c2
    obtain ⟨c0, c1, c2⟩ := HR4.out.c3
    obtain ⟨a4, p4, rfl, r4⟩ := o4.row_n (n := 16) (by simp [hgje, putL_len])
    clear o4
    go_wp2_with fail
    refine (put_any a4 16 p4 _ n 2 w4 r4 (by simp [hgje, putL_len]) (by omega) (by omega)).mono ?_
    rintro x w5 ⟨v5, rfl, o5⟩
    have e5 : putA ((hgje ++ putL t 4) ++ putL s 8) n 2 = ((hgje ++ putL t 4) ++ putL s 8) ++ putL n 2 := rfl
    rw [e5] at o5
    have HR5 := Lib.hid (HR4.out.later o5.below)
    have HB5 := Lib.hid (HB4.out.trans (o5.below.mono HB4.out.size))
    clear c0 c1 c2
    obtain ⟨c0, c1, c2⟩ := HR5.out.c3
    have o6 := o5.back (HB4.out.mono (Nat.le_refl _))
    go_wp2_with (at_builtin; refine wp_row rfl _ _ rfl _ _ rfl w o6 a c n d (HL.out.later HB5.out) HN.out rfl (by have := HN.out; simp [hgje, putL_len]; omega) ?_; intro v6 w6 o7)
    obtain ⟨a7, p7, rfl, r7⟩ := o7.row_n (n := 18 + n) (by simp [hgje, putL_len, HN.out]; omega)
    have b7 := Lib.hid o7.below
    clear o7 o6 o5 c0 c1 c2
    go_wp2_with fail
    refine (seal_any a7 (18 + n) p7 _ w6 r7 (by simp [hgje, putL_len, HN.out]; omega) (by omega)).mono ?_
    rintro x w8 ⟨v8, rfl, o8⟩
    have o9 := Lib.hid (o8.back b7.out)
    clear o8
    go_wp2_with fail
    go_ret2
    rw [HA.out, HE.out, HN.out]
    exact ⟨_, rfl, o9.out⟩

theorem rput_oV {l D : List UInt8} {W0 : World} (a : Option Addr) (m cap : Nat) (n : Nat) (k : Int) (w : World) (hr : Row w a cap l) (hm : l.length = m) (hlen : m ≤ 100000) (hn : n < 18446744073709551616) (hb : Below W0.heap.size W0 w) (hD : putA l n k = D) :
    Calls Try.prog 19 #[.slice a m cap, .int .u64 n, .int .i64 k] w fun e w' => ∃ v, e = .returned v ∧ (oV W0 D).p w' v ∧ Below w.heap.size w w' := by
  subst hD
  exact (rput_any a m cap l n k w hr hm hlen hn).mono fun e w' ⟨v, h, o⟩ => ⟨v, h, o.back hb, o.below⟩

set_option maxRecDepth 20000 in
set_option maxHeartbeats 3200000 in
theorem rlay_any (e : En) (ad : Option Addr) (c n : Nat) (w : World) (hr : Row w ad c e.data) (hn : e.data.length = n) (hn2 : n ≤ 9223372036854775807) :
    Calls Try.prog 28 #[.agg #[.int .i64 e.tag, .int .i64 e.seq, .slice ad n c]] w fun x w' => ∃ v, x = .returned (.tuple #[v, .int .i64 (layA e).2]) ∧ Own w w' v (layA e).1 := by
  have HB : Hid (Below w.heap.size w (w.alloc (.cells #[.int .i64 e.tag, .int .i64 e.seq, .slice ad n c] 44))) := Lib.hid ((Below.refl _ _).alloc (Nat.le_refl _) _)
  cases h : e.right with
  | false =>
    have HA := Lib.hid (layA_no h)
    unfold En.right at h
    rw [hn] at h
    have HH := Lib.hid h
    clear h
    go_enter Try.func28, Try.ntmps28
    go_wp2_with fail
    refine (frrright_any _ _ _ _ _ _ (by omega)).mono ?_
    rw [HH.out]
    rintro x w1 ⟨rfl, hb1⟩
    go_wp2_with fail
    go_ret2
    rw [HA.out]
    exact ⟨_, rfl, World.ownsRow_nil _ _ _ _, HB.out.trans (hb1.mono HB.out.size)⟩
  | true =>
    have HA := Lib.hid (layA_yes h)
    have HE := Lib.hid (show layL e = sealL (((((hgje ++ putL e.tag.toNat 4) ++ putL e.seq.toNat 8) ++ putL e.data.length 2)) ++ e.data) from rfl)
    have hc := rightE_iff.1 h
    unfold En.right at h
    rw [hn] at h hc
    have HH := Lib.hid h
    have HR := Lib.hid (RecAt.new w #[.int .i64 e.tag, .int .i64 e.seq, .slice ad n c] 44)
    have HL := Lib.hid hr
    clear hr h
    obtain ⟨t, s, d⟩ := e
    simp only at hc hn HR HB HL HH HE
    obtain ⟨t, rfl⟩ := Int.eq_ofNat_of_zero_le (show 0 ≤ t by omega)
    obtain ⟨s, rfl⟩ := Int.eq_ofNat_of_zero_le (show 0 ≤ s by omega)
    have HN := Lib.hid hn
    clear hn
    go_enter Try.func28, Try.ntmps28
    go_wp2_with fail
    refine (frrright_any _ _ _ _ _ _ (by omega)).mono ?_
    rw [HH.out]
    rintro x w1 ⟨rfl, hb1⟩
    have HR1 := Lib.hid (HR.out.later hb1)
    have HB1 := Lib.hid (HB.out.trans (hb1.mono HB.out.size))
    have he := own_empty (Below.refl w1.heap.size w1)
    go_wp2_with (at_builtin; refine wp_text rfl _ _ rfl _ _ rfl w1 he _ rfl (by decide) ?_; intro v4 w4 o4)
    have HR2 : Hid (RecAt w4 w.heap.size #[.int .i64 (t : Nat), .int .i64 (s : Nat), .slice ad n c] 44) := Lib.hid (HR1.out.later o4.below)
    have HB4 := Lib.hid (HB1.out.trans (o4.below.mono HB1.out.size))
    obtain ⟨a4, p4, rfl, r4⟩ := o4.row_n (n := 4) (by decide)
    have R4 : Hid (Row w4 a4 p4 hgje) := Lib.hid r4
    clear r4 o4 he
    go_wp2_with fail
    -- REG 4
    refine wp_region_ptab (L := fun ph => match ph with | _ => [cV (.slice a4 4 p4), cV (.pointer (some ⟨w.heap.size, 0, .none⟩)), cV (.int .i64 (t : Nat)), cV (.int .u64 (t : Nat)), oV w (hgje ++ putL t 4), cV (.pointer (some ⟨w.heap.size, 1, .none⟩)), cV (.int .i64 (s : Nat)), cV (.int .u64 (s : Nat)), oV w ((hgje ++ putL t 4) ++ putL s 8), cV (.pointer (some ⟨w.heap.size, 2, .none⟩)), cV (.slice ad n c), cV (.int .i64 (n : Nat)), cV (.int .u64 (n : Nat)), oV w (((hgje ++ putL t 4) ++ putL s 8) ++ putL n 2), oV w (((hgje ++ putL t 4) ++ putL s 8) ++ putL n 2)]) (fun _ wq => Below w4.heap.size w4 wq) [] [(0, 0), (0, 0), (0, 0), (0, 0), (0, 0), (0, 0), (0, 0), (0, 0), (0, 0), (0, 0), (0, 0), (0, 0), (0, 0), (0, 0), (0, 0)] [[(4, none)], [(1, none)], [(11, some 1)], [(12, some 2)], [(10, some 0), (13, some 3)], [(1, none)], [(15, some 5)], [(16, some 6)], [(14, some 4), (17, some 7)], [(1, none)], [(19, some 9)], [(20, some 10)], [(21, some 11)], [(18, some 8), (22, some 12)], [(23, some 13)]] 15 0 29 (by kernel_rfl) rfl rfl rfl (by kernel_rfl) (by kernel_rfl) (by decide) (by kernel_rfl) ?_ ?_ ?_ ?_ ?_
    · exact fun ph w1 w2 h hb => h.trans (hb.mono h.size)
    · exact Below.refl _ _
    · show ∀ i, i < 15 → _
      iterate 15 (refine fls ?_ ?_)
      · exact fl0
      · intro hne lo hi ph hran hp1 hp2 a w1 hJ hsz hs      -- 0: slot 10
        obtain ⟨rfl, rfl⟩ : 0 = lo ∧ 0 = hi := Prod.mk.inj (Option.some.inj hran)
        obtain rfl : ph = 0 := by omega
        obtain ⟨h0, _⟩ := hs
        have h0 : a.tmps.getD 4 undef = .slice a4 4 p4 := h0
        refine op_run rfl rfl (v := .slice a4 4 p4) (w' := w1) ?_ rfl (Below.refl _ _)
        simp [execOp, Act.eval, h0, go_sem]
      · intro hne lo hi ph hran hp1 hp2 a w1 hJ hsz hs      -- 1: slot 11
        obtain ⟨rfl, rfl⟩ : 0 = lo ∧ 0 = hi := Prod.mk.inj (Option.some.inj hran)
        obtain rfl : ph = 0 := by omega
        obtain ⟨h0, _⟩ := hs
        have h0 : a.tmps.getD 1 undef = .pointer (some ⟨w.heap.size, 0, .none⟩) := h0
        refine op_run rfl rfl (v := .pointer (some ⟨w.heap.size, 0, .none⟩)) (w' := w1) ?_ rfl (Below.refl _ _)
        simp [execOp, Act.eval, h0, go_sem]
      · intro hne lo hi ph hran hp1 hp2 a w1 hJ hsz hs      -- 2: slot 12
        obtain ⟨rfl, rfl⟩ : 0 = lo ∧ 0 = hi := Prod.mk.inj (Option.some.inj hran)
        obtain rfl : ph = 0 := by omega
        obtain ⟨h0, _⟩ := hs
        have h0 : a.tmps.getD 11 undef = .pointer (some ⟨w.heap.size, 0, .none⟩) := h0
        obtain ⟨c0, c1, c2⟩ := (HR2.out.later hJ).c3
        refine op_run rfl rfl (v := .int .i64 (t : Nat)) (w' := w1) ?_ rfl (Below.refl _ _)
        simp [execOp, Act.eval, h0, c0, go_sem]
      · intro hne lo hi ph hran hp1 hp2 a w1 hJ hsz hs      -- 3: slot 13
        obtain ⟨rfl, rfl⟩ : 0 = lo ∧ 0 = hi := Prod.mk.inj (Option.some.inj hran)
        obtain rfl : ph = 0 := by omega
        obtain ⟨h0, _⟩ := hs
        have h0 : a.tmps.getD 12 undef = .int .i64 (t : Nat) := h0
        have c : IntKind.u64.wrap ((t : Nat) : Int) = t := by rw [IntKind.wrap_u64]; omega
        refine op_run rfl rfl (v := .int .u64 (t : Nat)) (w' := w1) ?_ rfl (Below.refl _ _)
        simp [execOp, Act.eval, h0, c, go_sem]
      · intro hne lo hi ph hran hp1 hp2 a w1 hJ hsz hs      -- 4: slot 14
        obtain ⟨rfl, rfl⟩ : 0 = lo ∧ 0 = hi := Prod.mk.inj (Option.some.inj hran)
        obtain rfl : ph = 0 := by omega
        obtain ⟨h0, h1, _⟩ := hs
        have h0 : a.tmps.getD 10 undef = .slice a4 4 p4 := h0
        have h1 : a.tmps.getD 13 undef = .int .u64 (t : Nat) := h1
        refine op_call rfl rfl (f := 19) (args := #[.slice a4 4 p4, .int .u64 (t : Nat), .int .i64 4]) (by simp [execOp, Act.eval, resolve, h0, h1, go_sem]) ?_
        exact rput_oV (l := hgje) (W0 := w) a4 4 p4 t 4 w1 (R4.out.later hJ) (by decide) (by omega) (by omega) (HB4.out.trans (hJ.mono HB4.out.size)) rfl
      · intro hne lo hi ph hran hp1 hp2 a w1 hJ hsz hs      -- 5: slot 15
        obtain ⟨rfl, rfl⟩ : 0 = lo ∧ 0 = hi := Prod.mk.inj (Option.some.inj hran)
        obtain rfl : ph = 0 := by omega
        obtain ⟨h0, _⟩ := hs
        have h0 : a.tmps.getD 1 undef = .pointer (some ⟨w.heap.size, 0, .none⟩) := h0
        refine op_run rfl rfl (v := .pointer (some ⟨w.heap.size, 1, .none⟩)) (w' := w1) ?_ rfl (Below.refl _ _)
        simp [execOp, Act.eval, h0, go_sem]
      · intro hne lo hi ph hran hp1 hp2 a w1 hJ hsz hs      -- 6: slot 16
        obtain ⟨rfl, rfl⟩ : 0 = lo ∧ 0 = hi := Prod.mk.inj (Option.some.inj hran)
        obtain rfl : ph = 0 := by omega
        obtain ⟨h0, _⟩ := hs
        have h0 : a.tmps.getD 15 undef = .pointer (some ⟨w.heap.size, 1, .none⟩) := h0
        obtain ⟨c0, c1, c2⟩ := (HR2.out.later hJ).c3
        refine op_run rfl rfl (v := .int .i64 (s : Nat)) (w' := w1) ?_ rfl (Below.refl _ _)
        simp [execOp, Act.eval, h0, c1, go_sem]
      · intro hne lo hi ph hran hp1 hp2 a w1 hJ hsz hs      -- 7: slot 17
        obtain ⟨rfl, rfl⟩ : 0 = lo ∧ 0 = hi := Prod.mk.inj (Option.some.inj hran)
        obtain rfl : ph = 0 := by omega
        obtain ⟨h0, _⟩ := hs
        have h0 : a.tmps.getD 16 undef = .int .i64 (s : Nat) := h0
        have c : IntKind.u64.wrap ((s : Nat) : Int) = s := by rw [IntKind.wrap_u64]; omega
        refine op_run rfl rfl (v := .int .u64 (s : Nat)) (w' := w1) ?_ rfl (Below.refl _ _)
        simp [execOp, Act.eval, h0, c, go_sem]
      · intro hne lo hi ph hran hp1 hp2 a w1 hJ hsz hs      -- 8: slot 18
        obtain ⟨rfl, rfl⟩ : 0 = lo ∧ 0 = hi := Prod.mk.inj (Option.some.inj hran)
        obtain rfl : ph = 0 := by omega
        obtain ⟨h0, h1, _⟩ := hs
        have m0 : (oV w (hgje ++ putL t 4)).p w1 (a.tmps.getD 14 undef) := h0; obtain ⟨a0, p0, h0, r0⟩ := ov_row (n := 8) h0 (by simp [hgje, putL_len])
        have h1 : a.tmps.getD 17 undef = .int .u64 (s : Nat) := h1
        refine op_call rfl rfl (f := 19) (args := #[.slice a0 8 p0, .int .u64 (s : Nat), .int .i64 8]) (by simp [execOp, Act.eval, resolve, h0, h1, go_sem]) ?_
        exact rput_oV (l := hgje ++ putL t 4) (W0 := w) a0 8 p0 s 8 w1 r0 (by simp [hgje, putL_len]) (by omega) (by omega) (HB4.out.trans (hJ.mono HB4.out.size)) rfl
      · intro hne lo hi ph hran hp1 hp2 a w1 hJ hsz hs      -- 9: slot 19
        obtain ⟨rfl, rfl⟩ : 0 = lo ∧ 0 = hi := Prod.mk.inj (Option.some.inj hran)
        obtain rfl : ph = 0 := by omega
        obtain ⟨h0, _⟩ := hs
        have h0 : a.tmps.getD 1 undef = .pointer (some ⟨w.heap.size, 0, .none⟩) := h0
        refine op_run rfl rfl (v := .pointer (some ⟨w.heap.size, 2, .none⟩)) (w' := w1) ?_ rfl (Below.refl _ _)
        simp [execOp, Act.eval, h0, go_sem]
      · intro hne lo hi ph hran hp1 hp2 a w1 hJ hsz hs      -- 10: slot 20
        obtain ⟨rfl, rfl⟩ : 0 = lo ∧ 0 = hi := Prod.mk.inj (Option.some.inj hran)
        obtain rfl : ph = 0 := by omega
        obtain ⟨h0, _⟩ := hs
        have h0 : a.tmps.getD 19 undef = .pointer (some ⟨w.heap.size, 2, .none⟩) := h0
        obtain ⟨c0, c1, c2⟩ := (HR2.out.later hJ).c3
        refine op_run rfl rfl (v := .slice ad n c) (w' := w1) ?_ rfl (Below.refl _ _)
        simp [execOp, Act.eval, h0, c2, go_sem]
      · intro hne lo hi ph hran hp1 hp2 a w1 hJ hsz hs      -- 11: slot 21
        obtain ⟨rfl, rfl⟩ : 0 = lo ∧ 0 = hi := Prod.mk.inj (Option.some.inj hran)
        obtain rfl : ph = 0 := by omega
        obtain ⟨h0, _⟩ := hs
        have h0 : a.tmps.getD 20 undef = .slice ad n c := h0
        refine op_run rfl rfl (v := .int .i64 (n : Nat)) (w' := w1) ?_ rfl (Below.refl _ _)
        simp [execOp, Act.eval, h0, go_sem]
      · intro hne lo hi ph hran hp1 hp2 a w1 hJ hsz hs      -- 12: slot 22
        obtain ⟨rfl, rfl⟩ : 0 = lo ∧ 0 = hi := Prod.mk.inj (Option.some.inj hran)
        obtain rfl : ph = 0 := by omega
        obtain ⟨h0, _⟩ := hs
        have h0 : a.tmps.getD 21 undef = .int .i64 (n : Nat) := h0
        have c : IntKind.u64.wrap ((n : Nat) : Int) = n := by rw [IntKind.wrap_u64]; omega
        refine op_run rfl rfl (v := .int .u64 (n : Nat)) (w' := w1) ?_ rfl (Below.refl _ _)
        simp [execOp, Act.eval, h0, c, go_sem]
      · intro hne lo hi ph hran hp1 hp2 a w1 hJ hsz hs      -- 13: slot 23
        obtain ⟨rfl, rfl⟩ : 0 = lo ∧ 0 = hi := Prod.mk.inj (Option.some.inj hran)
        obtain rfl : ph = 0 := by omega
        obtain ⟨h0, h1, _⟩ := hs
        have m0 : (oV w ((hgje ++ putL t 4) ++ putL s 8)).p w1 (a.tmps.getD 18 undef) := h0; obtain ⟨a0, p0, h0, r0⟩ := ov_row (n := 16) h0 (by simp [hgje, putL_len])
        have h1 : a.tmps.getD 22 undef = .int .u64 (n : Nat) := h1
        refine op_call rfl rfl (f := 19) (args := #[.slice a0 16 p0, .int .u64 (n : Nat), .int .i64 2]) (by simp [execOp, Act.eval, resolve, h0, h1, go_sem]) ?_
        exact rput_oV (l := (hgje ++ putL t 4) ++ putL s 8) (W0 := w) a0 16 p0 n 2 w1 r0 (by simp [hgje, putL_len]) (by omega) (by omega) (HB4.out.trans (hJ.mono HB4.out.size)) rfl
      · intro hne lo hi ph hran hp1 hp2 a w1 hJ hsz hs      -- 14: slot 4
        obtain ⟨rfl, rfl⟩ : 0 = lo ∧ 0 = hi := Prod.mk.inj (Option.some.inj hran)
        obtain rfl : ph = 0 := by omega
        obtain ⟨h0, _⟩ := hs
        have m0 : (oV w (((hgje ++ putL t 4) ++ putL s 8) ++ putL n 2)).p w1 (a.tmps.getD 23 undef) := h0; obtain ⟨a0, p0, h0, r0⟩ := ov_row (n := 18) h0 (by simp [hgje, putL_len])
        exact op_run rfl rfl (v := a.tmps.getD 23 undef) (w' := w1) (by simp [execOp, Act.eval, go_sem]) m0 (Below.refl _ _)
    · show ∀ ph, ph < 0 → _
      iterate 0 (refine fls ?_ ?_)
      · exact fl0
    · intro f w1 hJ hv
      have e4 : (oV w (((hgje ++ putL t 4) ++ putL s 8) ++ putL n 2)).p w1 (f 4) := hv 14 _ 4 rfl rfl
      clear hv
      try simp only [Exit.then]
      simp only [putAll, List.foldl_cons, List.foldl_nil, Option.getD_some, Act.put, List.setIfInBounds_toArray, List.set_cons_succ, List.set_cons_zero]
      generalize f 4 = v5 at e4 ⊢
      have o6 : Own w w1 v5 (((hgje ++ putL t 4) ++ putL s 8) ++ putL n 2) := e4
      have HR5 := Lib.hid (HR2.out.later hJ)
      have HB5 := Lib.hid (HB4.out.trans (hJ.mono HB4.out.size))
      clear e4 hJ
      obtain ⟨c0, c1, c2⟩ := HR5.out.c3
      go_wp2_with (at_builtin; refine wp_row rfl _ _ rfl _ _ rfl w o6 ad c n d (HL.out.later HB5.out) HN.out rfl (by have := HN.out; simp [hgje, putL_len]; omega) ?_; intro v6 w6 o7)
      obtain ⟨a7, p7, rfl, r7⟩ := o7.row_n (n := 18 + n) (by simp [hgje, putL_len, HN.out]; omega)
      have b7 := Lib.hid o7.below
      clear o7 o6 c0 c1 c2
      go_wp2_with fail
      refine (rseal_any a7 (18 + n) p7 _ w6 r7 (by simp [hgje, putL_len, HN.out]; omega) (by omega)).mono ?_
      rintro x w8 ⟨v8, rfl, o8⟩
      have o9 := Lib.hid (o8.back b7.out)
      clear o8
      go_wp2_with fail
      go_ret2
      rw [HA.out, HE.out, HN.out]
      exact ⟨_, rfl, o9.out⟩
    -- END 4
end Go.Proofs.Ytiahifpbofkimaa
namespace Go.Proofs.Ytiahifpbofkimaa
open Go.RowKit
set_option linter.unusedVariables false
set_option linter.unusedSimpArgs false

theorem wrap_small {n : Nat} (h : n < 9223372036854775808) : wrap64 (n : Int) = n := by unfold wrap64; omega
theorem ret2_eq {v v' : Value} {x x' : Value} (h : v = v') (h2 : x = x') : Ending.returned (.tuple #[v, x]) = .returned (.tuple #[v', x']) := by rw [h, h2]

theorem begun_right {l : List UInt8} (h22 : 22 ≤ l.length) (hq : fieldL l 0 4 = 1162495816) (hc : fieldL l 16 2 + 22 ≤ l.length) :
    rightE (wrap64 (fieldL l 4 4 : Nat)) (wrap64 (fieldL l 8 8 : Nat)) (fieldL l 16 2) = (begunA l).isSome ∧ ∀ t s n, begunA l = some (t, s, n) → wrap64 (fieldL l 4 4 : Nat) = t ∧ wrap64 (fieldL l 8 8 : Nat) = s ∧ fieldL l 16 2 = n := by
  have h4 : fieldL l 4 4 < 4294967296 := fieldL_lt l 4 4
  have h8 : fieldL l 8 8 < 18446744073709551616 := fieldL_lt l 8 8
  have w4 := wrap_small (n := fieldL l 4 4) (by omega)
  rw [w4]
  refine ⟨?_, fun t s n h => ?_⟩
  · cases hr : rightE (fieldL l 4 4 : Nat) (fieldL l 8 8 : Nat) (fieldL l 16 2) with
    | true =>
      have hb : begunA l = some (fieldL l 4 4, fieldL l 8 8, fieldL l 16 2) := by unfold begunA; rw [if_pos ⟨h22, hq, hr, hc⟩]
      have := rightE_iff.1 hr
      rw [hb, wrap_small (by omega), hr]; rfl
    | false =>
      have hb : begunA l = none := begunA_none (fun h => by rw [hr] at h; exact absurd h.2.2.1 (by simp))
      rw [hb]
      refine rightE_no (fun h => rightE_not hr ?_)
      unfold wrap64 at h; omega
  · obtain ⟨c1, c2, c3, c4, c5, c6, c7⟩ := begunA_some h
    have := rightE_iff.1 c3
    rw [c5, c6, c7, wrap_small (by omega)]; exact ⟨rfl, rfl, rfl⟩

def Began (l : List UInt8) (w : World) (e : Ending) (w' : World) : Prop :=
  ∃ (T Z : Int) (x : Option Addr) (n c : Nat), e = .returned (.tuple #[.agg #[.int .i64 T, .int .i64 Z, .slice x n c], .bool (begunA l).isSome]) ∧ Below w.heap.size w w' ∧
      ∀ t s k, begunA l = some (t, s, k) → T = t ∧ Z = s ∧ n = k

set_option maxRecDepth 20000 in
set_option maxHeartbeats 3200000 in
theorem begun_any (ad : Option Addr) (m cap : Nat) (l : List UInt8) (w : World) (hr : Row w ad cap l) (hm : l.length = m) (hlen : m ≤ 100000) :
    Calls Try.prog 97 #[.slice ad m cap] w fun e w' => Began l w e w' := by
  have HM := Lib.hid hm
  have HR := Lib.hid hr
  rcases (show m < 22 ∨ 22 ≤ m by omega) with h22 | h22
  · have HA := Lib.hid (begunA_none (m := l) (by omega))
    clear hm hr
    go_enter Try.func97, Try.ntmps97
    go_wp2_with fail
    refine bodyPost_ret (results_ct rfl rfl (RecAt.new w #[.int .i64 0, .int .i64 0, .slice none 0 0] 44) Try.underlying44 rfl (by kernel_rfl)) rfl ?_
    exact ⟨0, 0, none, 0, 0, by rw [HA.out]; rfl, (Below.refl _ _).alloc (Nat.le_refl _) _, fun t s n h => by rw [HA.out] at h; cases h⟩
  · have HQ := fieldL_lt l 0 4
    have HC : fieldL l 16 2 < 65536 := fieldL_lt l 16 2
    have hQ4 := Lib.hid (wrap_small (n := fieldL l 0 4) (by omega))
    have hC2 := Lib.hid (wrap_small (n := fieldL l 16 2) (by omega))
    have hba : Below w.heap.size w (w.alloc (.cells #[.int .i64 0, .int .i64 0, .slice none 0 0] 44)) := (Below.refl _ _).alloc (Nat.le_refl _) _
    have hd : decide ((m : Int) < 22) = false := by simp; omega
    have HB := Lib.hid hba
    have HX : Hid (RecAt (w.alloc (.cells #[.int .i64 0, .int .i64 0, .slice none 0 0] 44)) w.heap.size #[.int .i64 0, .int .i64 0, .slice none 0 0] 44) := Lib.hid (RecAt.new _ _ _)
    have N0 := Lib.hid (number_any ad m cap l 0 4 _ (hr.later hba) hm hlen (by omega) (by omega))
    have N16 := Lib.hid (number_any ad m cap l 16 2 _ (hr.later hba) hm hlen (by omega) (by omega))
    rw [hQ4.out] at N0
    rw [hC2.out] at N16
    clear hQ4 hC2 hba
    by_cases hq : fieldL l 0 4 = 1162495816
    · by_cases hc : fieldL l 16 2 + 22 ≤ m
      · have hcc : ((fieldL l 16 2 : Nat) : Int) ≤ (m : Int) - 22 := by omega
        have N4 := Lib.hid (fun w1 (hb : Below w.heap.size w w1) => number_any ad m cap l 4 4 w1 (hr.later hb) hm hlen (by omega) (by omega))
        have N8 := Lib.hid (fun w1 (hb : Below w.heap.size w w1) => number_any ad m cap l 8 8 w1 (hr.later hb) hm hlen (by omega) (by omega))
        have hbr := begun_right (l := l) (by omega) hq (by omega)
        have hmc := hr.1
        rw [hm] at hmc
        obtain ⟨bk, off, rfl, hcell⟩ := hr.at (by omega)
        clear hm hr HQ hcell
        rw [hq, show ((1162495816 : Nat) : Int) = (1162495816 : Int) by omega] at N0
        have HSL : Hid (∀ W, (Instr.slice 25 (.slice (some ⟨bk, off, none⟩) m cap) (some (.int .i64 18)) (some (.int .i64 (18 + ((fieldL l 16 2 : Nat) : Int)))) none).run Try.prog W = .ok (.slice (some ⟨bk, off + 18, none⟩) (fieldL l 16 2) (cap - 18)) W) := Lib.hid fun W => by
          have := run_sl W bk off m cap 18 (18 + fieldL l 16 2) (by omega) (by omega) (by omega)
          rw [show 18 + fieldL l 16 2 - 18 = fieldL l 16 2 by omega, show ((18 + fieldL l 16 2 : Nat) : Int) = 18 + (fieldL l 16 2 : Nat) by omega] at this
          exact this
        generalize fieldL l 16 2 = C at *
        obtain ⟨T, hT⟩ : ∃ T, wrap64 (fieldL l 4 4 : Nat) = T := ⟨_, rfl⟩
        obtain ⟨Z, hZ⟩ : ∃ Z, wrap64 (fieldL l 8 8 : Nat) = Z := ⟨_, rfl⟩
        rw [hT] at N4
        rw [hZ] at N8
        rw [hT, hZ] at hbr
        have HBR := Lib.hid hbr
        clear hbr
        have HT := Lib.hid hT
        have HZ := Lib.hid hZ
        clear hT hZ hq
        go_enter Try.func97, Try.ntmps97
        go_wp2_with fail
        refine N0.out.mono ?_
        rintro e w1 ⟨rfl, rfl⟩
        go_wp2_with fail
        refine N16.out.mono ?_
        rintro e w1 ⟨rfl, rfl⟩
        go_wp2_with fail
        -- REG 6
        refine wp_region_xtab (L := fun ph => match ph with | 0 => [cV (.slice (some ⟨bk, off, none⟩) m cap), cV (.int .i64 T), cV (.slice (some ⟨bk, off, none⟩) m cap), cV (.int .i64 Z), cV (.slice (some ⟨bk, off, none⟩) m cap), cV (.int .i64 (C : Nat)), cV (.int .i64 (18 + (C : Int))), cV (.slice (some ⟨bk, off + 18, none⟩) C (cap - 18)), cV (.agg #[.int .i64 T, .int .i64 Z, .slice (some ⟨bk, off + 18, none⟩) C (cap - 18)]), cV (.pointer (some ⟨w.heap.size + 1, 0, none⟩)), tV] | 1 => [cV (.slice (some ⟨bk, off, none⟩) m cap), cV (.int .i64 T), cV (.slice (some ⟨bk, off, none⟩) m cap), cV (.int .i64 Z), cV (.slice (some ⟨bk, off, none⟩) m cap), cV (.int .i64 (C : Nat)), cV (.int .i64 (18 + (C : Int))), cV (.slice (some ⟨bk, off + 18, none⟩) C (cap - 18)), cV (.agg #[.int .i64 T, .int .i64 Z, .slice (some ⟨bk, off + 18, none⟩) C (cap - 18)]), cV (.pointer (some ⟨w.heap.size + 1, 0, none⟩)), tV] | _ => [cV (.slice (some ⟨bk, off, none⟩) m cap), cV (.int .i64 T), cV (.slice (some ⟨bk, off, none⟩) m cap), cV (.int .i64 Z), cV (.slice (some ⟨bk, off, none⟩) m cap), cV (.int .i64 (C : Nat)), cV (.int .i64 (18 + (C : Int))), cV (.slice (some ⟨bk, off + 18, none⟩) C (cap - 18)), cV (.agg #[.int .i64 T, .int .i64 Z, .slice (some ⟨bk, off + 18, none⟩) C (cap - 18)]), cV (.pointer (some ⟨w.heap.size + 1, 0, none⟩)), tV]) (fun ph wq => match ph with | 0 => wq = (w.alloc (.cells #[.int .i64 0, .int .i64 0, .slice none 0 0] 44)).drew | 1 => wq = (w.alloc (.cells #[.int .i64 0, .int .i64 0, .slice none 0 0] 44)).drew.alloc (.cells #[.int .i64 0, .int .i64 0, .slice none 0 0] 44) | _ => RecAt wq (w.heap.size + 1) #[.int .i64 T, .int .i64 Z, .slice (some ⟨bk, off + 18, none⟩) C (cap - 18)] 44 ∧ RecAt wq w.heap.size #[.int .i64 0, .int .i64 0, .slice none 0 0] 44 ∧ Below w.heap.size w wq) [9, 10] [(0, 1), (0, 1), (0, 1), (0, 1), (0, 1), (0, 1), (0, 1), (0, 1), (0, 1), (0, 1), (1, 2)] [[(0, none)], [(23, some 0)], [(0, none)], [(25, some 2)], [(0, none)], [(4, none)], [(28, some 5)], [(27, some 4), (29, some 6)], [(24, some 1), (26, some 3), (30, some 7)], [], [(5, some 9), (31, some 8)]] 11 2 35 (by kernel_rfl) rfl rfl rfl (by kernel_rfl) (by kernel_rfl) (by decide) (by kernel_rfl) ?_ ?_ ?_ ?_
        · rfl
        · show ∀ i, i < 11 → _
          iterate 11 (refine fls ?_ ?_)
          · exact fl0
          · intro hne lo hi ph hran hp1 hp2 a w1 hJ hsz hs      -- 0: slot 23
            obtain ⟨rfl, rfl⟩ : 0 = lo ∧ 1 = hi := Prod.mk.inj (Option.some.inj hran)
            rcases (by omega : ph = 0 ∨ ph = 1) with rfl | rfl
            · obtain ⟨h0, _⟩ := hs
              have h0 : a.tmps.getD 0 undef = .slice (some ⟨bk, off, none⟩) m cap := h0
              refine op_runX rfl rfl (v := .slice (some ⟨bk, off, none⟩) m cap) ?_ rfl
              simp [execOp, Act.eval, h0, go_sem]
            · obtain ⟨h0, _⟩ := hs
              have h0 : a.tmps.getD 0 undef = .slice (some ⟨bk, off, none⟩) m cap := h0
              refine op_runX rfl rfl (v := .slice (some ⟨bk, off, none⟩) m cap) ?_ rfl
              simp [execOp, Act.eval, h0, go_sem]
          · intro hne lo hi ph hran hp1 hp2 a w1 hJ hsz hs      -- 1: slot 24
            obtain ⟨rfl, rfl⟩ : 0 = lo ∧ 1 = hi := Prod.mk.inj (Option.some.inj hran)
            rcases (by omega : ph = 0 ∨ ph = 1) with rfl | rfl
            · obtain ⟨h0, _⟩ := hs
              have h0 : a.tmps.getD 23 undef = .slice (some ⟨bk, off, none⟩) m cap := h0
              refine op_callX rfl rfl (f := 101) (args := #[.slice (some ⟨bk, off, none⟩) m cap, .int .i64 4, .int .i64 4]) (by simp [execOp, Act.eval, resolve, h0, go_sem]) ?_
              exact calls_x (N4.out w1 (by subst hJ; first | exact HB.out.drew | exact HB.out.drew.alloc (by simp) _))
            · obtain ⟨h0, _⟩ := hs
              have h0 : a.tmps.getD 23 undef = .slice (some ⟨bk, off, none⟩) m cap := h0
              refine op_callX rfl rfl (f := 101) (args := #[.slice (some ⟨bk, off, none⟩) m cap, .int .i64 4, .int .i64 4]) (by simp [execOp, Act.eval, resolve, h0, go_sem]) ?_
              exact calls_x (N4.out w1 (by subst hJ; first | exact HB.out.drew | exact HB.out.drew.alloc (by simp) _))
          · intro hne lo hi ph hran hp1 hp2 a w1 hJ hsz hs      -- 2: slot 25
            obtain ⟨rfl, rfl⟩ : 0 = lo ∧ 1 = hi := Prod.mk.inj (Option.some.inj hran)
            rcases (by omega : ph = 0 ∨ ph = 1) with rfl | rfl
            · obtain ⟨h0, _⟩ := hs
              have h0 : a.tmps.getD 0 undef = .slice (some ⟨bk, off, none⟩) m cap := h0
              refine op_runX rfl rfl (v := .slice (some ⟨bk, off, none⟩) m cap) ?_ rfl
              simp [execOp, Act.eval, h0, go_sem]
            · obtain ⟨h0, _⟩ := hs
              have h0 : a.tmps.getD 0 undef = .slice (some ⟨bk, off, none⟩) m cap := h0
              refine op_runX rfl rfl (v := .slice (some ⟨bk, off, none⟩) m cap) ?_ rfl
              simp [execOp, Act.eval, h0, go_sem]
          · intro hne lo hi ph hran hp1 hp2 a w1 hJ hsz hs      -- 3: slot 26
            obtain ⟨rfl, rfl⟩ : 0 = lo ∧ 1 = hi := Prod.mk.inj (Option.some.inj hran)
            rcases (by omega : ph = 0 ∨ ph = 1) with rfl | rfl
            · obtain ⟨h0, _⟩ := hs
              have h0 : a.tmps.getD 25 undef = .slice (some ⟨bk, off, none⟩) m cap := h0
              refine op_callX rfl rfl (f := 101) (args := #[.slice (some ⟨bk, off, none⟩) m cap, .int .i64 8, .int .i64 8]) (by simp [execOp, Act.eval, resolve, h0, go_sem]) ?_
              exact calls_x (N8.out w1 (by subst hJ; first | exact HB.out.drew | exact HB.out.drew.alloc (by simp) _))
            · obtain ⟨h0, _⟩ := hs
              have h0 : a.tmps.getD 25 undef = .slice (some ⟨bk, off, none⟩) m cap := h0
              refine op_callX rfl rfl (f := 101) (args := #[.slice (some ⟨bk, off, none⟩) m cap, .int .i64 8, .int .i64 8]) (by simp [execOp, Act.eval, resolve, h0, go_sem]) ?_
              exact calls_x (N8.out w1 (by subst hJ; first | exact HB.out.drew | exact HB.out.drew.alloc (by simp) _))
          · intro hne lo hi ph hran hp1 hp2 a w1 hJ hsz hs      -- 4: slot 27
            obtain ⟨rfl, rfl⟩ : 0 = lo ∧ 1 = hi := Prod.mk.inj (Option.some.inj hran)
            rcases (by omega : ph = 0 ∨ ph = 1) with rfl | rfl
            · obtain ⟨h0, _⟩ := hs
              have h0 : a.tmps.getD 0 undef = .slice (some ⟨bk, off, none⟩) m cap := h0
              refine op_runX rfl rfl (v := .slice (some ⟨bk, off, none⟩) m cap) ?_ rfl
              simp [execOp, Act.eval, h0, go_sem]
            · obtain ⟨h0, _⟩ := hs
              have h0 : a.tmps.getD 0 undef = .slice (some ⟨bk, off, none⟩) m cap := h0
              refine op_runX rfl rfl (v := .slice (some ⟨bk, off, none⟩) m cap) ?_ rfl
              simp [execOp, Act.eval, h0, go_sem]
          · intro hne lo hi ph hran hp1 hp2 a w1 hJ hsz hs      -- 5: slot 28
            obtain ⟨rfl, rfl⟩ : 0 = lo ∧ 1 = hi := Prod.mk.inj (Option.some.inj hran)
            rcases (by omega : ph = 0 ∨ ph = 1) with rfl | rfl
            · obtain ⟨h0, _⟩ := hs
              have h0 : a.tmps.getD 4 undef = .int .i64 (C : Nat) := h0
              refine op_runX rfl rfl (v := .int .i64 (C : Nat)) ?_ rfl
              simp [execOp, Act.eval, h0, go_sem]
            · obtain ⟨h0, _⟩ := hs
              have h0 : a.tmps.getD 4 undef = .int .i64 (C : Nat) := h0
              refine op_runX rfl rfl (v := .int .i64 (C : Nat)) ?_ rfl
              simp [execOp, Act.eval, h0, go_sem]
          · intro hne lo hi ph hran hp1 hp2 a w1 hJ hsz hs      -- 6: slot 29
            obtain ⟨rfl, rfl⟩ : 0 = lo ∧ 1 = hi := Prod.mk.inj (Option.some.inj hran)
            rcases (by omega : ph = 0 ∨ ph = 1) with rfl | rfl
            · obtain ⟨h0, _⟩ := hs
              have h0 : a.tmps.getD 28 undef = .int .i64 (C : Nat) := h0
              have c : IntKind.i64.wrap (18 + (C : Int)) = 18 + (C : Int) := by rw [IntKind.wrap_i64]; omega
              refine op_runX rfl rfl (v := .int .i64 (18 + (C : Int))) ?_ rfl
              simp [execOp, Act.eval, h0, c, go_sem]
            · obtain ⟨h0, _⟩ := hs
              have h0 : a.tmps.getD 28 undef = .int .i64 (C : Nat) := h0
              have c : IntKind.i64.wrap (18 + (C : Int)) = 18 + (C : Int) := by rw [IntKind.wrap_i64]; omega
              refine op_runX rfl rfl (v := .int .i64 (18 + (C : Int))) ?_ rfl
              simp [execOp, Act.eval, h0, c, go_sem]
          · intro hne lo hi ph hran hp1 hp2 a w1 hJ hsz hs      -- 7: slot 30
            obtain ⟨rfl, rfl⟩ : 0 = lo ∧ 1 = hi := Prod.mk.inj (Option.some.inj hran)
            rcases (by omega : ph = 0 ∨ ph = 1) with rfl | rfl
            · obtain ⟨h0, h1, _⟩ := hs
              have h0 : a.tmps.getD 27 undef = .slice (some ⟨bk, off, none⟩) m cap := h0
              have h1 : a.tmps.getD 29 undef = .int .i64 (18 + (C : Int)) := h1
              have c := HSL.out w1
              refine op_runX rfl rfl (v := .slice (some ⟨bk, off + 18, none⟩) C (cap - 18)) ?_ rfl
              simp [execOp, Act.eval, h0, h1, c, go_sem]
            · obtain ⟨h0, h1, _⟩ := hs
              have h0 : a.tmps.getD 27 undef = .slice (some ⟨bk, off, none⟩) m cap := h0
              have h1 : a.tmps.getD 29 undef = .int .i64 (18 + (C : Int)) := h1
              have c := HSL.out w1
              refine op_runX rfl rfl (v := .slice (some ⟨bk, off + 18, none⟩) C (cap - 18)) ?_ rfl
              simp [execOp, Act.eval, h0, h1, c, go_sem]
          · intro hne lo hi ph hran hp1 hp2 a w1 hJ hsz hs      -- 8: slot 31
            obtain ⟨rfl, rfl⟩ : 0 = lo ∧ 1 = hi := Prod.mk.inj (Option.some.inj hran)
            rcases (by omega : ph = 0 ∨ ph = 1) with rfl | rfl
            · obtain ⟨h0, h1, h2, _⟩ := hs
              have h0 : a.tmps.getD 24 undef = .int .i64 T := h0
              have g0 : a.tmps[24]?.getD undef = .int .i64 T := (Array.getD_eq_getD_getElem? ..).symm.trans h0
              have h1 : a.tmps.getD 26 undef = .int .i64 Z := h1
              have g1 : a.tmps[26]?.getD undef = .int .i64 Z := (Array.getD_eq_getD_getElem? ..).symm.trans h1
              have h2 : a.tmps.getD 30 undef = .slice (some ⟨bk, off + 18, none⟩) C (cap - 18) := h2
              have g2 : a.tmps[30]?.getD undef = .slice (some ⟨bk, off + 18, none⟩) C (cap - 18) := (Array.getD_eq_getD_getElem? ..).symm.trans h2
              refine op_runX rfl rfl (v := .agg #[.int .i64 T, .int .i64 Z, .slice (some ⟨bk, off + 18, none⟩) C (cap - 18)]) ?_ rfl
              simp [execOp, Act.eval, g0, g1, g2, go_sem]
            · obtain ⟨h0, h1, h2, _⟩ := hs
              have h0 : a.tmps.getD 24 undef = .int .i64 T := h0
              have g0 : a.tmps[24]?.getD undef = .int .i64 T := (Array.getD_eq_getD_getElem? ..).symm.trans h0
              have h1 : a.tmps.getD 26 undef = .int .i64 Z := h1
              have g1 : a.tmps[26]?.getD undef = .int .i64 Z := (Array.getD_eq_getD_getElem? ..).symm.trans h1
              have h2 : a.tmps.getD 30 undef = .slice (some ⟨bk, off + 18, none⟩) C (cap - 18) := h2
              have g2 : a.tmps[30]?.getD undef = .slice (some ⟨bk, off + 18, none⟩) C (cap - 18) := (Array.getD_eq_getD_getElem? ..).symm.trans h2
              refine op_runX rfl rfl (v := .agg #[.int .i64 T, .int .i64 Z, .slice (some ⟨bk, off + 18, none⟩) C (cap - 18)]) ?_ rfl
              simp [execOp, Act.eval, g0, g1, g2, go_sem]
          · intro hne lo hi ph hran hp1 hp2 a w1 hJ hsz hs      -- 9: slot 5
            exact absurd (by decide) hne
          · intro hne lo hi ph hran hp1 hp2 a w1 hJ hsz hs      -- 10: slot None
            exact absurd (by decide) hne
        · show ∀ ph, ph < 2 → _
          iterate 2 (refine fls ?_ ?_)
          · exact fl0
          · intro i hi a w1 hJ hsz hs      -- heavy 0: op 9 slot 5
            obtain rfl : 9 = i := Option.some.inj hi
            have hcalm : ∀ (wq1 wq2 : World) (kk : Nat) (v0 : Value), kk ≠ 9 → VL [cV (.slice (some ⟨bk, off, none⟩) m cap), cV (.int .i64 T), cV (.slice (some ⟨bk, off, none⟩) m cap), cV (.int .i64 Z), cV (.slice (some ⟨bk, off, none⟩) m cap), cV (.int .i64 (C : Nat)), cV (.int .i64 (18 + (C : Int))), cV (.slice (some ⟨bk, off + 18, none⟩) C (cap - 18)), cV (.agg #[.int .i64 T, .int .i64 Z, .slice (some ⟨bk, off + 18, none⟩) C (cap - 18)]), cV (.pointer (some ⟨w.heap.size + 1, 0, none⟩)), tV] kk wq1 v0 → VL [cV (.slice (some ⟨bk, off, none⟩) m cap), cV (.int .i64 T), cV (.slice (some ⟨bk, off, none⟩) m cap), cV (.int .i64 Z), cV (.slice (some ⟨bk, off, none⟩) m cap), cV (.int .i64 (C : Nat)), cV (.int .i64 (18 + (C : Int))), cV (.slice (some ⟨bk, off + 18, none⟩) C (cap - 18)), cV (.agg #[.int .i64 T, .int .i64 Z, .slice (some ⟨bk, off + 18, none⟩) C (cap - 18)]), cV (.pointer (some ⟨w.heap.size + 1, 0, none⟩)), tV] kk wq2 v0 := Calm.all (n := 0) ⟨.inl ⟨_, rfl, rfl⟩, .inl ⟨_, rfl, rfl⟩, .inl ⟨_, rfl, rfl⟩, .inl ⟨_, rfl, rfl⟩, .inl ⟨_, rfl, rfl⟩, .inl ⟨_, rfl, rfl⟩, .inl ⟨_, rfl, rfl⟩, .inl ⟨_, rfl, rfl⟩, .inl ⟨_, rfl, rfl⟩, .inr (.inr rfl), .inr (.inl rfl), trivial⟩
            refine hv_run rfl rfl (v := .pointer (some ⟨w.heap.size + 1, 0, none⟩)) (w' := w1.alloc (.cells #[.int .i64 0, .int .i64 0, .slice none 0 0] 44)) ?_ rfl ?_ (hcalm _ _)
            · obtain rfl := hJ
              simp [execOp, Act.eval, go_sem]
            · obtain rfl := hJ
              rfl
          · intro i hi a w1 hJ hsz hs      -- heavy 1: op 10 slot None
            obtain rfl : 10 = i := Option.some.inj hi
            obtain ⟨h0, h1, _⟩ := hs
            have h0 : a.tmps.getD 5 undef = .pointer (some ⟨w.heap.size + 1, 0, none⟩) := h0
            have g0 : a.tmps[5]?.getD undef = .pointer (some ⟨w.heap.size + 1, 0, none⟩) := (Array.getD_eq_getD_getElem? ..).symm.trans h0
            have h1 : a.tmps.getD 31 undef = .agg #[.int .i64 T, .int .i64 Z, .slice (some ⟨bk, off + 18, none⟩) C (cap - 18)] := h1
            have g1 : a.tmps[31]?.getD undef = .agg #[.int .i64 T, .int .i64 Z, .slice (some ⟨bk, off + 18, none⟩) C (cap - 18)] := (Array.getD_eq_getD_getElem? ..).symm.trans h1
            have hcalm : ∀ (wq1 wq2 : World) (kk : Nat) (v0 : Value), kk ≠ 10 → VL [cV (.slice (some ⟨bk, off, none⟩) m cap), cV (.int .i64 T), cV (.slice (some ⟨bk, off, none⟩) m cap), cV (.int .i64 Z), cV (.slice (some ⟨bk, off, none⟩) m cap), cV (.int .i64 (C : Nat)), cV (.int .i64 (18 + (C : Int))), cV (.slice (some ⟨bk, off + 18, none⟩) C (cap - 18)), cV (.agg #[.int .i64 T, .int .i64 Z, .slice (some ⟨bk, off + 18, none⟩) C (cap - 18)]), cV (.pointer (some ⟨w.heap.size + 1, 0, none⟩)), tV] kk wq1 v0 → VL [cV (.slice (some ⟨bk, off, none⟩) m cap), cV (.int .i64 T), cV (.slice (some ⟨bk, off, none⟩) m cap), cV (.int .i64 Z), cV (.slice (some ⟨bk, off, none⟩) m cap), cV (.int .i64 (C : Nat)), cV (.int .i64 (18 + (C : Int))), cV (.slice (some ⟨bk, off + 18, none⟩) C (cap - 18)), cV (.agg #[.int .i64 T, .int .i64 Z, .slice (some ⟨bk, off + 18, none⟩) C (cap - 18)]), cV (.pointer (some ⟨w.heap.size + 1, 0, none⟩)), tV] kk wq2 v0 := Calm.all (n := 0) ⟨.inl ⟨_, rfl, rfl⟩, .inl ⟨_, rfl, rfl⟩, .inl ⟨_, rfl, rfl⟩, .inl ⟨_, rfl, rfl⟩, .inl ⟨_, rfl, rfl⟩, .inl ⟨_, rfl, rfl⟩, .inl ⟨_, rfl, rfl⟩, .inl ⟨_, rfl, rfl⟩, .inl ⟨_, rfl, rfl⟩, .inl ⟨_, rfl, rfl⟩, .inr (.inr rfl), trivial⟩
            obtain rfl := hJ
            refine hv_rec rfl rfl (x := w.heap.size + 1) (cs := #[.int .i64 0, .int .i64 0, .slice none 0 0]) (vs := #[.int .i64 T, .int .i64 Z, .slice (some ⟨bk, off + 18, none⟩) C (cap - 18)]) rfl h0 h1 (by have h := RecAt.new ((w.alloc (.cells #[.int .i64 0, .int .i64 0, .slice none 0 0] 44)).drew) #[.int .i64 0, .int .i64 0, .slice none 0 0] 44; rw [show ((w.alloc (.cells #[.int .i64 0, .int .i64 0, .slice none 0 0] 44)).drew).heap.size = w.heap.size + 1 by simp] at h; exact h) rfl (by kernel_rfl) (by kernel_rfl) (fun _ => trivial) (fun w2 r1 r2 r3 r4 => ⟨r1, ?_, ?_⟩) (fun w2 => hcalm _ _)
            · unfold RecAt
              rw [r3 _ (by omega)]
              exact HX.out.later ((Below.refl _ _).drew.alloc (by simp) _)
            · exact (HB.out.drew.alloc (by simp) _).grown r4 (by simp; omega) (fun k e => by cases e; omega)
            
        · intro f w1 hJ hv
          obtain ⟨q1, q2, q3⟩ := hJ
          have e5 : f 5 = .pointer (some ⟨w.heap.size + 1, 0, none⟩) := hv 9 _ 5 rfl rfl
          clear hv
          try simp only [Exit.then]
          simp only [putAll, List.foldl_cons, List.foldl_nil, Option.getD_some, Act.put, List.setIfInBounds_toArray, List.set_cons_succ, List.set_cons_zero]
          rw [e5]
          have HQ1 := Lib.hid q1
          have HQ2 := Lib.hid q2
          have HQ3 := Lib.hid q3
          clear q1 q2 q3 N0 N16 N4 N8
          go_wp2_with fail
          -- REG 7
          refine wp_region_ptab (L := fun ph => match ph with | 0 => [cV (.agg #[.int .i64 T, .int .i64 Z, .slice (some ⟨bk, off + 18, none⟩) C (cap - 18)]), cV (.agg #[.int .i64 T, .int .i64 Z, .slice (some ⟨bk, off + 18, none⟩) C (cap - 18)]), cV (.bool (rightE T Z C)), tV, cV (.bool (rightE T Z C))] | _ => [cV (.agg #[.int .i64 T, .int .i64 Z, .slice (some ⟨bk, off + 18, none⟩) C (cap - 18)]), cV (.agg #[.int .i64 T, .int .i64 Z, .slice (some ⟨bk, off + 18, none⟩) C (cap - 18)]), cV (.bool (rightE T Z C)), tV, cV (.bool (rightE T Z C))]) (fun ph wq => match ph with | 0 => Below w1.heap.size w1 wq | _ => RecAt wq w.heap.size #[.int .i64 T, .int .i64 Z, .slice (some ⟨bk, off + 18, none⟩) C (cap - 18)] 44 ∧ Below w.heap.size w wq) [3] [(0, 0), (0, 0), (0, 0), (0, 1), (0, 1)] [[(5, none)], [(5, none)], [(33, some 1)], [(2, none), (32, some 0)], [(34, some 2)]] 5 1 35 (by kernel_rfl) rfl rfl rfl (by kernel_rfl) (by kernel_rfl) (by decide) (by kernel_rfl) ?_ ?_ ?_ ?_ ?_
          · intro ph w3 w4 h hb
            match ph, h with
            | 0, h => exact h.trans (hb.mono h.size)
            | n + 1, h => exact ⟨h.1.later hb, h.2.trans (hb.mono h.2.size)⟩
          · exact Below.refl _ _
          · show ∀ i, i < 5 → _
            iterate 5 (refine fls ?_ ?_)
            · exact fl0
            · intro hne lo hi ph hran hp1 hp2 a w1 hJ hsz hs      -- 0: slot 32
              obtain ⟨rfl, rfl⟩ : 0 = lo ∧ 0 = hi := Prod.mk.inj (Option.some.inj hran)
              obtain rfl : ph = 0 := by omega
              obtain ⟨h0, _⟩ := hs
              have h0 : a.tmps.getD 5 undef = .pointer (some ⟨w.heap.size + 1, 0, none⟩) := h0
              obtain ⟨c0, c1, c2⟩ := (HQ1.out.later hJ).c3
              refine op_run rfl rfl (v := .agg #[.int .i64 T, .int .i64 Z, .slice (some ⟨bk, off + 18, none⟩) C (cap - 18)]) (w' := w1) ?_ rfl (Below.refl _ _)
              simp [execOp, Act.eval, h0, c0, c1, c2, go_sem]
            · intro hne lo hi ph hran hp1 hp2 a w1 hJ hsz hs      -- 1: slot 33
              obtain ⟨rfl, rfl⟩ : 0 = lo ∧ 0 = hi := Prod.mk.inj (Option.some.inj hran)
              obtain rfl : ph = 0 := by omega
              obtain ⟨h0, _⟩ := hs
              have h0 : a.tmps.getD 5 undef = .pointer (some ⟨w.heap.size + 1, 0, none⟩) := h0
              obtain ⟨c0, c1, c2⟩ := (HQ1.out.later hJ).c3
              refine op_run rfl rfl (v := .agg #[.int .i64 T, .int .i64 Z, .slice (some ⟨bk, off + 18, none⟩) C (cap - 18)]) (w' := w1) ?_ rfl (Below.refl _ _)
              simp [execOp, Act.eval, h0, c0, c1, c2, go_sem]
            · intro hne lo hi ph hran hp1 hp2 a w1 hJ hsz hs      -- 2: slot 34
              obtain ⟨rfl, rfl⟩ : 0 = lo ∧ 0 = hi := Prod.mk.inj (Option.some.inj hran)
              obtain rfl : ph = 0 := by omega
              obtain ⟨h0, _⟩ := hs
              have h0 : a.tmps.getD 33 undef = .agg #[.int .i64 T, .int .i64 Z, .slice (some ⟨bk, off + 18, none⟩) C (cap - 18)] := h0
              refine op_call rfl rfl (f := 79) (args := #[.agg #[.int .i64 T, .int .i64 Z, .slice (some ⟨bk, off + 18, none⟩) C (cap - 18)]]) (by simp [execOp, Act.eval, resolve, h0, go_sem]) ?_
              exact calls_c (frright_any T Z _ C _ w1 (by omega))
            · intro hne lo hi ph hran hp1 hp2 a w1 hJ hsz hs      -- 3: slot None
              exact absurd (by decide) hne
            · intro hne lo hi ph hran hp1 hp2 a w1 hJ hsz hs      -- 4: slot 3
              obtain ⟨rfl, rfl⟩ : 0 = lo ∧ 1 = hi := Prod.mk.inj (Option.some.inj hran)
              rcases (by omega : ph = 0 ∨ ph = 1) with rfl | rfl
              · obtain ⟨h0, _⟩ := hs
                have h0 : a.tmps.getD 34 undef = .bool (rightE T Z C) := h0
                refine op_run rfl rfl (v := .bool (rightE T Z C)) (w' := w1) ?_ rfl (Below.refl _ _)
                simp [execOp, Act.eval, h0, go_sem]
              · obtain ⟨h0, _⟩ := hs
                have h0 : a.tmps.getD 34 undef = .bool (rightE T Z C) := h0
                refine op_run rfl rfl (v := .bool (rightE T Z C)) (w' := w1) ?_ rfl (Below.refl _ _)
                simp [execOp, Act.eval, h0, go_sem]
          · show ∀ ph, ph < 1 → _
            iterate 1 (refine fls ?_ ?_)
            · exact fl0
            · intro i hi a w1 hJ hsz hs      -- heavy 0: op 3 slot None
              obtain rfl : 3 = i := Option.some.inj hi
              obtain ⟨h0, h1, _⟩ := hs
              have h0 : a.tmps.getD 2 undef = .pointer (some ⟨w.heap.size, 0, none⟩) := h0
              have g0 : a.tmps[2]?.getD undef = .pointer (some ⟨w.heap.size, 0, none⟩) := (Array.getD_eq_getD_getElem? ..).symm.trans h0
              have h1 : a.tmps.getD 32 undef = .agg #[.int .i64 T, .int .i64 Z, .slice (some ⟨bk, off + 18, none⟩) C (cap - 18)] := h1
              have g1 : a.tmps[32]?.getD undef = .agg #[.int .i64 T, .int .i64 Z, .slice (some ⟨bk, off + 18, none⟩) C (cap - 18)] := (Array.getD_eq_getD_getElem? ..).symm.trans h1
              have hcalm : ∀ (wq1 wq2 : World) (kk : Nat) (v0 : Value), kk ≠ 3 → VL [cV (.agg #[.int .i64 T, .int .i64 Z, .slice (some ⟨bk, off + 18, none⟩) C (cap - 18)]), cV (.agg #[.int .i64 T, .int .i64 Z, .slice (some ⟨bk, off + 18, none⟩) C (cap - 18)]), cV (.bool (rightE T Z C)), tV, cV (.bool (rightE T Z C))] kk wq1 v0 → VL [cV (.agg #[.int .i64 T, .int .i64 Z, .slice (some ⟨bk, off + 18, none⟩) C (cap - 18)]), cV (.agg #[.int .i64 T, .int .i64 Z, .slice (some ⟨bk, off + 18, none⟩) C (cap - 18)]), cV (.bool (rightE T Z C)), tV, cV (.bool (rightE T Z C))] kk wq2 v0 := Calm.all (n := 0) ⟨.inl ⟨_, rfl, rfl⟩, .inl ⟨_, rfl, rfl⟩, .inl ⟨_, rfl, rfl⟩, .inr (.inr rfl), .inl ⟨_, rfl, rfl⟩, trivial⟩
              refine hv_rec rfl rfl (x := w.heap.size) (vs := #[.int .i64 T, .int .i64 Z, .slice (some ⟨bk, off + 18, none⟩) C (cap - 18)]) rfl h0 h1 (HQ2.out.later hJ) rfl (by kernel_rfl) (by kernel_rfl) (fun _ => trivial) (fun w3 r1 r2 r3 r4 => ⟨r1, ?_⟩) (fun w3 => hcalm _ _)
              exact (HQ3.out.trans (hJ.mono HQ3.out.size)).grown r4 (HQ3.out.trans (hJ.mono HQ3.out.size)).size (fun k e => by cases e; exact Nat.le_refl _)
          · intro f w1 hJ hv
            obtain ⟨q1, q2⟩ := hJ
            have e3 : f 3 = .bool (rightE T Z C) := hv 4 _ 3 rfl rfl
            clear hv
            try simp only [Exit.then]
            simp only [putAll, List.foldl_cons, List.foldl_nil, Option.getD_some, Act.put, List.setIfInBounds_toArray, List.set_cons_succ, List.set_cons_zero]
            rw [e3, HBR.out.1]
            obtain ⟨rt, hrt⟩ : ∃ rt, (begunA l).isSome = rt := ⟨_, rfl⟩
            have HRT := Lib.hid hrt
            rw [hrt]
            clear hrt
            go_wp2_with fail
            refine bodyPost_ret (results_ct rfl rfl q1 Try.underlying44 rfl (by kernel_rfl)) rfl ?_
            exact ⟨_, _, _, _, _, by rw [HRT.out]; rfl, q2, HBR.out.2⟩
          -- END 7
        -- END 6
      · have HA := Lib.hid (begunA_none (m := l) (by omega))
        clear hm hr HQ
        rw [hq, show ((1162495816 : Nat) : Int) = (1162495816 : Int) by omega] at N0
        clear hq
        generalize fieldL l 16 2 = C at *
        go_enter Try.func97, Try.ntmps97
        go_wp2_with fail
        refine N0.out.mono ?_
        rintro e w1 ⟨rfl, rfl⟩
        go_wp2_with fail
        refine N16.out.mono ?_
        rintro e w1 ⟨rfl, rfl⟩
        go_wp2_with fail
        refine bodyPost_ret (results_ct rfl rfl HX.out Try.underlying44 rfl (by kernel_rfl)) rfl ?_
        exact ⟨0, 0, none, 0, 0, by rw [HA.out]; rfl, HB.out, fun t s n h => by rw [HA.out] at h; cases h⟩
    · have HA := Lib.hid (begunA_none (m := l) (by omega))
      clear hm hr
      generalize fieldL l 0 4 = Q at *
      go_enter Try.func97, Try.ntmps97
      go_wp2_with (go_at_call 101; refine N0.out.mono ?_; rintro e w1 ⟨rfl, rfl⟩)
      refine bodyPost_ret (results_ct rfl rfl HX.out Try.underlying44 rfl (by kernel_rfl)) rfl ?_
      exact ⟨0, 0, none, 0, 0, by rw [HA.out]; rfl, HB.out, fun t s n h => by rw [HA.out] at h; cases h⟩
end Go.Proofs.Ytiahifpbofkimaa
namespace Go.Proofs.Ytiahifpbofkimaa
open Go.RowKit
set_option linter.unusedVariables false

/-- An entry as a value. -/
def entV (e : En) (a : Option Addr) (c : Nat) : Value := .agg #[.int .i64 e.tag, .int .i64 e.seq, .slice a e.data.length c]
/-- Take's answer. -/
def Took (A : En × Int × Int) (w : World) (e : Ending) (w' : World) : Prop :=
  ∃ a c, e = .returned (.tuple #[entV A.1 a c, .int .i64 A.2.1, .int .i64 A.2.2]) ∧ Row w' a c A.1.data ∧ Below w.heap.size w w' ∧ ∀ x, a = some x → w.heap.size ≤ x.block ∧ x.block < w'.heap.size
def zrec : Array Value := #[.int .i64 0, .int .i64 0, .slice none 0 0]

theorem Row.lt_of {w : World} {x : Addr} {cap : Nat} {l : List UInt8} (h : Row w (some x) cap l) (h0 : 0 < l.length) : x.block < w.heap.size := by
  have := h.2.2.2 x rfl 0 l[0] (List.getElem?_eq_getElem h0)
  have h2 := World.block_lt_of_cell? w _ this
  have e : (x.add 0).block = x.block := by unfold Addr.add; split <;> rfl
  rwa [e] at h2
theorem cell_block {w w' : World} {x : Addr} (hk : w'.heap[x.block]? = w.heap[x.block]?) : w'.cell? x = w.cell? x := by
  unfold World.cell?; rw [hk]
theorem Row.same {w w' : World} {g off cap : Nat} {l : List UInt8} (h : Row w (some ⟨g, off, .none⟩) cap l) (hk : w'.heap[g]? = w.heap[g]?) : Row w' (some ⟨g, off, .none⟩) cap l := by
  refine ⟨h.1, h.2.1, h.2.2.1, fun x hx i u hu => ?_⟩
  have := h.2.2.2 x hx i u hu
  cases hx
  rw [← this]
  refine cell_block ?_
  have e : ((⟨g, off, .none⟩ : Addr).add i).block = g := by unfold Addr.add; split <;> rfl
  rw [e]; exact hk
theorem setCell_heap_other (w : World) {g E : Nat} (h : g ≠ E) (i : Nat) (v : Value) : (w.setCell ⟨E, i, none⟩ v).heap[g]? = w.heap[g]? := by
  simp only [World.setCell, Array.getElem?_modify]
  rw [if_neg (fun e => h e.symm)]

set_option maxRecDepth 20000 in
set_option maxHeartbeats 3200000 in
theorem take_any (ad : Option Addr) (m cap : Nat) (l : List UInt8) (p : Int) (w : World) (hr : Row w ad cap l) (hm : l.length = m) (hlen : m ≤ 100000) (hp0 : -9223372036854775808 ≤ p) (hp1 : p ≤ 9223372036854775807) :
    Calls Try.prog 88 #[.slice ad m cap, .int .i64 p] w fun e w' => Took (takeA l p) w e w' := by
  have hba : Below w.heap.size w (w.alloc (.cells #[.int .i64 0, .int .i64 0, .slice none 0 0] 44)) := (Below.refl _ _).alloc (Nat.le_refl _) _
  have HB := Lib.hid hba
  have HX : Hid (RecAt (w.alloc (.cells #[.int .i64 0, .int .i64 0, .slice none 0 0] 44)) w.heap.size #[.int .i64 0, .int .i64 0, .slice none 0 0] 44) := Lib.hid (RecAt.new _ _ _)
  rcases (show (p < 0 ∨ (m : Int) < p) ∨ (0 ≤ p ∧ p = m) ∨ (0 ≤ p ∧ p < m) by omega) with h | h | h
  · have HA := Lib.hid (takeA_out (l := l) (p := p) (by omega))
    clear hr hm hba
    rcases (show p < 0 ∨ (0 ≤ p ∧ (m : Int) < p) by omega) with h | h
    all_goals
      go_enter Try.func88, Try.ntmps88
      go_wp2_with fail
      refine bodyPost_ret (results_ctt rfl rfl HX.out Try.underlying44 rfl (by kernel_rfl)) rfl ?_
      rw [HA.out]
      exact ⟨none, 0, rfl, Row.none _, HB.out, fun x h => nomatch h⟩
  · obtain ⟨h0, rfl⟩ := h
    have HA : Hid (takeA l (m : Int) = (noE, 0, 4)) := by
      have h1 := takeA_in (l := l) (p := m) (by omega)
      rw [takeM_nil (by simp; omega)] at h1
      exact Lib.hid h1
    clear hr hm hba
    have hd : decide ((m : Int) < 0) = false := by simp
    go_enter Try.func88, Try.ntmps88
    go_wp2_with fail
    refine bodyPost_ret (results_ctt rfl rfl HX.out Try.underlying44 rfl (by kernel_rfl)) rfl ?_
    rw [HA.out]
    exact ⟨none, 0, rfl, Row.none _, HB.out, fun x h => nomatch h⟩
  · obtain ⟨h0, h1⟩ := h
    obtain ⟨q, rfl⟩ := Int.eq_ofNat_of_zero_le h0
    obtain ⟨bk, off, rfl, hcell⟩ := hr.at (by omega)
    have hmc := hr.1
    rw [hm] at hmc
    have hTA := takeA_in (l := l) (p := q) (by omega)
    have hr2 := hr.drop q (by omega)
    have hl2 : (l.drop q).length = m - q := by simp; omega
    generalize hM : l.drop q = M at *
    have HR2 := Lib.hid hr2
    have BG := Lib.hid (begun_any (some ⟨bk, off + q, none⟩) (m - q) (cap - q) M _ (hr2.later hba) hl2 (by omega))
    have HL2 := Lib.hid hl2
    have hd : decide ((q : Int) < 0) = false := by simp
    have hqm : (q : Int) < m := h1
    have hqc : (q : Int) < cap := by omega
    clear hr hm hba hcell hr2 hl2 h0
    cases hb : begunA M with
    | none =>
      have HA : Hid (takeA l (q : Int) = (noE, 0, 2)) := by
        rw [takeM_form (by have := HL2.out; omega) hb] at hTA
        exact Lib.hid hTA
      clear hTA
      have HBN := Lib.hid hb
      clear hb
      go_enter Try.func88, Try.ntmps88
      go_wp2_with fail
      refine BG.out.mono ?_
      rintro e w1 ⟨T, Z, x, n, c, rfl, hb1, -⟩
      rw [HBN.out, Option.isSome_none]
      have HB1 := Lib.hid (HB.out.trans (hb1.mono HB.out.size))
      have HX1 := Lib.hid (HX.out.later hb1)
      have HB2 : Hid (Below w.heap.size w (w1.alloc (.cells #[.int .i64 T, .int .i64 Z, .slice x n c] 44))) := Lib.hid (HB1.out.alloc HB1.out.size _)
      have HX2 : Hid (RecAt (w1.alloc (.cells #[.int .i64 T, .int .i64 Z, .slice x n c] 44)) w.heap.size #[.int .i64 0, .int .i64 0, .slice none 0 0] 44) := Lib.hid (HX1.out.later ((Below.refl _ _).alloc (Nat.le_refl _) _))
      go_upto_region 7 with fail
      generalize (w1.alloc (.cells #[.int .i64 T, .int .i64 Z, .slice x n c] 44)) = w2 at *
      go_wp2_with (refine wpList_rec rfl rfl w.heap.size #[.int .i64 0, .int .i64 0, .slice none 0 0] #[.int .i64 0, .int .i64 0, .slice none 0 0] rfl rfl HX2.out rfl (by kernel_rfl) (by kernel_rfl) ?_; intro w3 r1 r2 r3 r4)
      refine bodyPost_ret (results_ctt rfl rfl r1 Try.underlying44 rfl (by kernel_rfl)) rfl ?_
      rw [HA.out]
      exact ⟨none, 0, rfl, Row.none _, HB2.out.grown r4 HB2.out.size (fun k e => by cases e; exact Nat.le_refl _), fun x h => nomatch h⟩
    | some y =>
      obtain ⟨t, s, k⟩ := y
      have hbs := begunA_some hb
      have hrt := rightE_iff.1 hbs.2.2.1
      have hkm : k + 22 ≤ m - q := by have := hbs.2.2.2.1; have := HL2.out; omega
      have HBN := Lib.hid hb
      have HS : Hid (min (max (k : Int) 0) 90 + 22 = (k : Int) + 22) := Lib.hid (by omega)
      have HRT : Hid (Row w (some ⟨bk, off + q, none⟩) (cap - q) (M.take (k + 22))) := Lib.hid (HR2.out.take (k + 22))
      have HTL : Hid ((M.take (k + 22)).length = k + 22) := Lib.hid (by have := HL2.out; simp; omega)
      have HSUM := Lib.hid (fun h => takeM_sum hb h)
      have HOK := Lib.hid (fun b h => takeM_ok (b := b) hb h)
      have HTA := Lib.hid hTA
      clear hTA hbs hb
      obtain ⟨r1, r2, r3, r4, r5, r6⟩ := hrt
      go_enter Try.func88, Try.ntmps88
      go_wp2_with fail
      refine BG.out.mono ?_
      rintro e w1 ⟨T, Z, x, n, c, rfl, hb1, hsame⟩
      obtain ⟨rfl, rfl, rfl⟩ := hsame t s k HBN.out
      clear hsame
      rw [HBN.out, Option.isSome_some]
      have HB1 := Lib.hid (HB.out.trans (hb1.mono HB.out.size))
      have HX1 := Lib.hid (HX.out.later hb1)
      have HB2 : Hid (Below w.heap.size w (w1.alloc (.cells #[.int .i64 (t : Nat), .int .i64 (s : Nat), .slice x n c] 44))) := Lib.hid (HB1.out.alloc HB1.out.size _)
      have HX2 : Hid (RecAt (w1.alloc (.cells #[.int .i64 (t : Nat), .int .i64 (s : Nat), .slice x n c] 44)) w.heap.size #[.int .i64 0, .int .i64 0, .slice none 0 0] 44) := Lib.hid (HX1.out.later ((Below.refl _ _).alloc (Nat.le_refl _) _))
      have HE2 : Hid (RecAt (w1.alloc (.cells #[.int .i64 (t : Nat), .int .i64 (s : Nat), .slice x n c] 44)) w1.heap.size #[.int .i64 (t : Nat), .int .i64 (s : Nat), .slice x n c] 44) := Lib.hid (RecAt.new _ _ _)
      have HNE : Hid (w.heap.size < w1.heap.size) := Lib.hid HX1.out.lt
      go_upto_region 8 with fail
      generalize (w1.alloc (.cells #[.int .i64 (t : Nat), .int .i64 (s : Nat), .slice x n c] 44)) = w2 at *
      generalize w1.heap.size = E at *
      clear HX1 HB1 hb1
      obtain ⟨c0, c1, c2⟩ := HE2.out.c3
      go_wp2_with fail
      refine (size_any _ _).mono ?_
      rw [HS.out]
      rintro e w3 ⟨rfl, rfl⟩
      clear c0 c1 c2
      go_wp2_with fail
      refine (open_any (some ⟨bk, off + q, none⟩) (n + 22) (cap - q) _ w2 (HRT.out.later HB2.out) HTL.out (by omega)).mono ?_
      rintro e w3 ⟨v3, rfl, o3⟩
      have HX3 := Lib.hid (HX2.out.later o3.below)
      have HE3 := Lib.hid (HE2.out.later o3.below)
      have HB3 := Lib.hid (HB2.out.trans (o3.below.mono HB2.out.size))
      cases ho : openL (M.take (n + 22)) with
      | none =>
        rw [ho] at o3
        have HA : Hid (takeA l (q : Int) = (noE, 0, 13)) := by
          have := HTA.out
          rw [HSUM.out ho] at this
          exact Lib.hid this
        clear HTA ho o3
        rw [Option.isSome_none]
        go_wp2_with (refine wpList_rec rfl rfl w.heap.size #[.int .i64 0, .int .i64 0, .slice none 0 0] #[.int .i64 0, .int .i64 0, .slice none 0 0] rfl rfl HX3.out rfl (by kernel_rfl) (by kernel_rfl) ?_; intro w4 q1 q2 q3 q4)
        refine bodyPost_ret (results_ctt rfl rfl q1 Try.underlying44 rfl (by kernel_rfl)) rfl ?_
        rw [HA.out]
        exact ⟨none, 0, rfl, Row.none _, HB3.out.grown q4 HB3.out.size (fun k e => by cases e; exact Nat.le_refl _), fun x h => nomatch h⟩
      | some b =>
        rw [ho, Option.getD_some] at o3
        have hbl : b.length = n + 18 := by
          have := (openL_some ho).1
          rw [this]; simp; have := HL2.out; omega
        have HA : Hid (takeA l (q : Int) = (⟨(t : Nat), (s : Nat), b.drop 18⟩, (q : Int) + ((n : Int) + 22), 0)) := by
          have := HTA.out
          rw [HOK.out b ho] at this
          exact Lib.hid (by rw [this]; rfl)
        have HBL : Hid ((b.drop 18).length = n) := Lib.hid (by simp; omega)
        obtain ⟨g, c3, rfl, hc3, hm3⟩ := o3.at hbl (by omega)
        obtain ⟨a5, c5, hv5, ro⟩ := o3.row_n hbl
        cases hv5
        have HGE : Hid (E < g) := Lib.hid (Nat.lt_of_lt_of_le HE2.out.lt o3.ge.1)
        have HRO := Lib.hid (ro.drop (b := g) (off := 0) 18 (by omega))
        clear HTA ho o3 ro
        rw [Option.isSome_some]
        obtain ⟨c0, c1, c2⟩ := HE3.out.c3
        obtain ⟨f0, f1, f2⟩ := HE3.out.f3
        go_upto_region 13 with fail
        have HE4 : Hid (RecAt (w3.setCell ⟨E, 2, none⟩ (.slice (some ⟨g, 18, none⟩) n (c3 - 18))) E #[.int .i64 (t : Nat), .int .i64 (s : Nat), .slice (some ⟨g, 18, none⟩) n (c3 - 18)] 44) := Lib.hid (HE3.out.set 2 _)
        have HX4 : Hid (RecAt (w3.setCell ⟨E, 2, none⟩ (.slice (some ⟨g, 18, none⟩) n (c3 - 18))) w.heap.size #[.int .i64 0, .int .i64 0, .slice none 0 0] 44) := Lib.hid (HX3.out.other (by have := HNE.out; omega) 2 _)
        have HB4 : Hid (Below w.heap.size w (w3.setCell ⟨E, 2, none⟩ (.slice (some ⟨g, 18, none⟩) n (c3 - 18)))) := Lib.hid (HB3.out.setCell (by have := HNE.out; simp; omega) _)
        have HR4 : Hid (Row (w3.setCell ⟨E, 2, none⟩ (.slice (some ⟨g, 18, none⟩) n (c3 - 18))) (some ⟨g, 18, none⟩) (c3 - 18) (b.drop 18)) := Lib.hid (HRO.out.same (setCell_heap_other _ (by have := HGE.out; omega) _ _))
        generalize (w3.setCell ⟨E, 2, none⟩ (.slice (some ⟨g, 18, none⟩) n (c3 - 18))) = w4 at *
        clear c0 c1 c2 f0 f1 f2 HX3 HE3 HB3
        obtain ⟨c0, c1, c2⟩ := HE4.out.c3
        go_wp2_with (refine wpList_rec rfl rfl w.heap.size #[.int .i64 0, .int .i64 0, .slice none 0 0] #[.int .i64 (t : Nat), .int .i64 (s : Nat), .slice (some ⟨g, 18, none⟩) n (c3 - 18)] rfl rfl HX4.out rfl (by kernel_rfl) (by kernel_rfl) ?_; intro w5 q1 q2 q3 q4)
        refine bodyPost_ret (results_ctt rfl rfl q1 Try.underlying44 rfl (by kernel_rfl)) rfl ?_
        rw [HA.out]
        refine ⟨some ⟨g, 18, none⟩, c3 - 18, ?_, ?_, HB4.out.grown q4 HB4.out.size (fun k e => by cases e; exact Nat.le_refl _), fun x h => by cases h; have := HGE.out; have := HTL.out; exact ⟨Nat.le_of_lt (Nat.lt_trans HNE.out HGE.out), (HR4.out.same (q3 g (fun e => Nat.lt_irrefl _ (Nat.lt_trans (Nat.lt_of_lt_of_eq HGE.out e) HNE.out)))).lt_of (by rw [HBL.out]; omega)⟩⟩
        · unfold entV; simp only; rw [HBL.out]; rfl
        · exact HR4.out.same (q3 g (fun e => Nat.lt_irrefl _ (Nat.lt_trans (Nat.lt_of_lt_of_eq HGE.out e) HNE.out)))
end Go.Proofs.Ytiahifpbofkimaa
namespace Go.Proofs.Ytiahifpbofkimaa
open Go.RowKit
set_option linter.unusedVariables false
set_option linter.unusedSimpArgs false

/-! ### an entry, a row of entries that one reads -/
def EnE (w : World) (cs : List Value) (e : En) : Prop := ∃ a c, cs = [.int .i64 e.tag, .int .i64 e.seq, .slice a e.data.length c] ∧ Row w a c e.data
theorem EnE.later {w w' : World} {cs : List Value} {e : En} (h : EnE w cs e) (hb : Below w.heap.size w w') : EnE w' cs e := by
  obtain ⟨a, c, h1, h2⟩ := h; exact ⟨a, c, h1, h2.later hb⟩
set_option maxRecDepth 20000 in
theorem opens_en {w : World} : Opens w 44 (EnE w) :=
  Opens.fields Try.underlying44 (by kernel_rfl : Try.prog.cellsOf 44 = 3) fun cs hl hf => by
    obtain ⟨t, ht, _⟩ := hf 0 _ rfl _ _ (Opens.int (k := .i64) Try.underlying3)
    obtain ⟨s, hs, _⟩ := hf 1 _ rfl _ _ (Opens.int (k := .i64) Try.underlying3)
    obtain ⟨d, a, c, hd, hr⟩ := hf 2 _ rfl _ _ (Opens.bytes (w := w) Try.underlying25 Try.underlying5 (by kernel_rfl))
    refine ⟨⟨t, s, d⟩, a, c, ?_, hr⟩
    match cs, hl with
    | [x, y, z], _ =>
      have h1 : Try.prog.cellsOf 3 = 1 := by kernel_rfl
      have h2 : Try.prog.cellsOf 25 = 1 := by kernel_rfl
      simp [h1] at ht
      simp [h1] at hs
      simp [h2] at hd
      simp [ht, hs, hd]
/-- A slice of entries that one reads. -/
def ERow (w : World) (a : Option Addr) (cap : Nat) (es : List En) : Prop :=
  es.length ≤ cap ∧ cap ≤ maxLen ∧ (a = none → cap = 0) ∧ ∀ x, a = some x → ∀ (i : Nat) e, es[i]? = some e → x.spot = .none ∧ ∃ ai ci, w.cell? ⟨x.block, x.off + i * 3, .none⟩ = some (.int .i64 e.tag) ∧ w.cell? ⟨x.block, x.off + i * 3 + 1, .none⟩ = some (.int .i64 e.seq) ∧
    w.cell? ⟨x.block, x.off + i * 3 + 2, .none⟩ = some (.slice ai e.data.length ci) ∧ Row w ai ci e.data
theorem RowE.erow {w : World} {a : Option Addr} {cap : Nat} {es : List En} (h : RowE w 3 (EnE w) a cap es) : ERow w a cap es := by
  refine ⟨h.1, h.2.1, h.2.2.1, fun x hx i e he => ?_⟩
  have hsp : x.spot = none := by
    have hi := (List.getElem?_eq_some_iff.1 he).1
    obtain ⟨cs, h1, h2, ai, ci, rfl, h4⟩ := h.2.2.2 x hx 0 es[0] (List.getElem?_eq_getElem (by omega))
    have c0 := h2 0 (by omega)
    exact World.cell?_spot c0
  obtain ⟨cs, h1, h2, ai, ci, rfl, h4⟩ := h.2.2.2 x hx i e he
  have c0 := h2 0 (by omega)
  have c1 := h2 1 (by omega)
  have c2 := h2 2 (by omega)
  rw [add_add hsp] at c0 c1 c2
  exact ⟨hsp, ai, ci, c0, c1, c2, h4⟩
theorem ERow.later {w w' : World} {a : Option Addr} {cap : Nat} {es : List En} (h : ERow w a cap es) (hb : Below w.heap.size w w') : ERow w' a cap es := by
  refine ⟨h.1, h.2.1, h.2.2.1, fun x hx i e he => ?_⟩
  obtain ⟨hs, ai, ci, c0, c1, c2, h4⟩ := h.2.2.2 x hx i e he
  exact ⟨hs, ai, ci, by rw [hb.cell (World.block_lt_of_cell? w _ c0)]; exact c0, by rw [hb.cell (World.block_lt_of_cell? w _ c1)]; exact c1, by rw [hb.cell (World.block_lt_of_cell? w _ c2)]; exact c2, h4.later hb⟩
theorem ERow.at {w : World} {a : Option Addr} {cap : Nat} {es : List En} (h : ERow w a cap es) {i : Nat} {e : En} (he : es[i]? = some e) :
    ∃ b off ai ci, a = some ⟨b, off, .none⟩ ∧ w.cell? ⟨b, off + i * 3, .none⟩ = some (.int .i64 e.tag) ∧ w.cell? ⟨b, off + i * 3 + 1, .none⟩ = some (.int .i64 e.seq) ∧
      w.cell? ⟨b, off + i * 3 + 2, .none⟩ = some (.slice ai e.data.length ci) ∧ Row w ai ci e.data := by
  cases a with
  | none =>
    have := h.2.2.1 rfl
    have := h.1
    have := (List.getElem?_eq_some_iff.1 he).1
    omega
  | some x =>
    obtain ⟨hs, ai, ci, c0, c1, c2, h4⟩ := h.2.2.2 x rfl i e he
    obtain ⟨b, off, sp⟩ := x
    simp only at hs
    subst hs
    exact ⟨b, off, ai, ci, rfl, c0, c1, c2, h4⟩
theorem ERow.nil (w : World) : ERow w .none 0 [] := ⟨by simp, by simp [maxLen], fun _ => rfl, fun x h => by cases h⟩
theorem ERow.take {w : World} {a : Option Addr} {cap : Nat} {es : List En} (h : ERow w a cap es) (k : Nat) : ERow w a cap (es.take k) := by
  refine ⟨by have := h.1; simp; omega, h.2.1, h.2.2.1, fun x hx i e he => h.2.2.2 x hx i e ?_⟩
  rw [List.getElem?_take] at he
  split at he
  · exact he
  · cases he

/-! ### one that a call made itself -/
def EOwn (W0 w : World) (v : Value) (es : List En) : Prop :=
  ∃ cs : List Value, w.ownsRow W0.heap.size 44 3 v es.length cs ∧ Below W0.heap.size W0 w ∧ ∀ (i : Nat) e, es[i]? = some e → ∃ ai ci, cs[i * 3]? = some (.int .i64 e.tag) ∧ cs[i * 3 + 1]? = some (.int .i64 e.seq) ∧
    cs[i * 3 + 2]? = some (.slice ai e.data.length ci) ∧ Row w ai ci e.data ∧ ∀ x, ai = some x → x.block < w.heap.size ∧ v.ownBlock ≠ some x.block
theorem EOwn.nil (w : World) : EOwn w w (.slice .none 0 0) [] := ⟨[], World.ownsRow_nil _ _ _ _, Below.refl _ _, fun i e h => by simp at h⟩
theorem EOwn.below {W0 w : World} {v : Value} {es : List En} (h : EOwn W0 w v es) : Below W0.heap.size W0 w := by obtain ⟨_, _, h, _⟩ := h; exact h
theorem EOwn.later {W0 w w' : World} {v : Value} {es : List En} (h : EOwn W0 w v es) (hb : Below w.heap.size w w') : EOwn W0 w' v es := by
  obtain ⟨cs, h1, h2, h3⟩ := h
  refine ⟨cs, ownsRow_later h1 hb, h2.trans (hb.mono h2.size), fun i e he => ?_⟩
  obtain ⟨ai, ci, c0, c1, c2, hr, hx⟩ := h3 i e he
  exact ⟨ai, ci, c0, c1, c2, hr.later hb, fun x hx2 => ⟨Nat.lt_of_lt_of_le (hx x hx2).1 hb.size, (hx x hx2).2⟩⟩
theorem EOwn.row {W0 w : World} {v : Value} {es : List En} (h : EOwn W0 w v es) : ∃ a cap, v = .slice a es.length cap ∧ ERow w a cap es := by
  obtain ⟨cs, h1, h2, h3⟩ := h
  rcases h1.2 with ⟨hv, hn⟩ | ⟨g, cap, cur, hv, hb, hg, hn, hc, hs, ht⟩
  · have : es = [] := List.length_eq_zero_iff.1 hn
    subst this
    exact ⟨.none, 0, hv, ERow.nil w⟩
  · refine ⟨_, cap, hv, hn, hc, fun e => (by cases e), fun x hx i e he => ?_⟩
    cases hx
    obtain ⟨ai, ci, c0, c1, c2, hr, hx⟩ := h3 i e he
    have hi := (List.getElem?_eq_some_iff.1 he).1
    have hr1 := h1
    rw [hv] at hr1
    refine ⟨rfl, ai, ci, ?_, ?_, ?_, hr⟩
    · rw [Nat.zero_add, hr1.cellAt (i * 3) (by omega)]; exact c0
    · rw [Nat.zero_add, hr1.cellAt (i * 3 + 1) (by omega)]; exact c1
    · rw [Nat.zero_add, hr1.cellAt (i * 3 + 2) (by omega)]; exact c2
theorem EOwn.row_n {W0 w : World} {v : Value} {es : List En} {n : Nat} (h : EOwn W0 w v es) (hn : es.length = n) : ∃ a cap, v = .slice a n cap ∧ ERow w a cap es := by subst hn; exact h.row
theorem info_en : (Try.prog.info? 44).map (fun i => (i.zero, i.size, i.bytes)) = some (some (.agg #[.int .i64 0, .int .i64 0, .slice .none 0 0]), 3, 40) := by kernel_rfl
theorem Row.kept {w w' : World} {a : Option Addr} {cap : Nat} {l : List UInt8} {g : Option Nat} (h : Row w a cap l) (hg : w.grownBy w' g) (hx : ∀ x, a = some x → x.block < w.heap.size ∧ g ≠ some x.block) : Row w' a cap l := by
  refine ⟨h.1, h.2.1, h.2.2.1, fun x hx2 i u hu => ?_⟩
  have := h.2.2.2 x hx2 i u hu
  rw [← this]
  refine cell_block ?_
  have e : (x.add i).block = x.block := by unfold Addr.add; split <;> rfl
  rw [e]
  obtain ⟨_, _, _, _, hk⟩ := hg
  exact hk x.block (hx x hx2).1 (fun e => (hx x hx2).2 e.symm)
section
variable {ops : Array Oper} {rest : List Oper} {o : Oper} {a : Act} {Q : Exit → Act → World → Prop}
/-- 'append(s, e)', s the call's own: the entry lies in the block that the statement has just laid. -/
theorem wp_ent {w0 : World} (hgd : o.guard = none) (s x : Operand) (ho : o.op = .call { callee := .builtin .append, args := #[s, x], argTypes := #[23, 23] })
    (v : Value) (es : List En) (hs : a.eval s = v) (W0 : World) (hown : EOwn W0 w0 v es) (e : En) (ad : Option Addr) (n c : Nat) (hn : e.data.length = n) (hr : Row w0 ad c e.data) (had : ∀ y, ad = some y → y.block < w0.heap.size ∧ v.ownBlock ≠ some y.block)
    (hx : a.eval x = .slice (some ⟨w0.heap.size, 0, none⟩) 1 1) (hlen : es.length + 1 ≤ 1000000)
    (h : ∀ v' w', EOwn W0 w' v' (es ++ [e]) → wpList Try.prog ops Q rest (a.put o.dst v') w') : wpList Try.prog ops Q (o :: rest) a (w0.alloc (.cells #[.int .i64 e.tag, .int .i64 e.seq, .slice ad n c] 44)) := by
  subst hn
  obtain ⟨cs, h10, h20, h30⟩ := hown
  have hba : Below w0.heap.size w0 (w0.alloc (.cells #[.int .i64 e.tag, .int .i64 e.seq, .slice ad e.data.length c] 44)) := (Below.refl _ _).alloc (Nat.le_refl _) _
  have h1 := ownsRow_later h10 hba
  have h2 := h20.trans (hba.mono h20.size)
  have hx3 : ∀ (i : Nat) u, es[i]? = some u → ∀ ai ci, cs[i * 3 + 2]? = some (.slice ai u.data.length ci) → ∀ y, ai = some y → y.block < w0.heap.size ∧ v.ownBlock ≠ some y.block := by
    intro i u hu ai ci hc
    obtain ⟨ai2, ci2, _, _, c2, _, hx2⟩ := h30 i u hu
    rw [c2] at hc
    cases hc
    exact hx2
  have h3 : ∀ (i : Nat) u, es[i]? = some u → ∃ ai ci, cs[i * 3]? = some (.int .i64 u.tag) ∧ cs[i * 3 + 1]? = some (.int .i64 u.seq) ∧ cs[i * 3 + 2]? = some (.slice ai u.data.length ci) ∧ Row (w0.alloc (.cells #[.int .i64 e.tag, .int .i64 e.seq, .slice ad e.data.length c] 44)) ai ci u.data ∧
      ∀ y, ai = some y → y.block < (w0.alloc (.cells #[.int .i64 e.tag, .int .i64 e.seq, .slice ad e.data.length c] 44)).heap.size ∧ v.ownBlock ≠ some y.block := by
    intro i u hu
    obtain ⟨ai, ci, c0, c1, c2, hr, hx2⟩ := h30 i u hu
    exact ⟨ai, ci, c0, c1, c2, hr.later hba, fun y hy => ⟨Nat.lt_of_lt_of_le (hx2 y hy).1 hba.size, (hx2 y hy).2⟩⟩
  obtain ⟨i0, hi, hz0, hz1, hz2⟩ := info_parts info_en
  have hrec := RecAt.new w0 #[.int .i64 e.tag, .int .i64 e.seq, .slice ad e.data.length c] 44
  refine wpList_append_own_at _ hgd s x 23 ho W0.heap.size 44 i0 _ 3 40 Try.underlying23 hi hz0 hz1 hz2 rfl (by decide) v _ _ hs h1 ⟨w0.heap.size, 0, none⟩ 1 1 [.int .i64 e.tag, .int .i64 e.seq, .slice ad e.data.length c] hx rfl ?_ ?_ (by unfold maxLen; omega) (by omega) h2.size ?_
  · intro j u hu
    have e0 : (⟨w0.heap.size, 0, none⟩ : Addr).add j = ⟨w0.heap.size, j, none⟩ := by unfold Addr.add; split <;> simp_all
    rw [e0]
    exact hrec.cell (by simpa using hu)
  · intro u hu
    simp only [List.mem_cons, List.not_mem_nil, or_false] at hu
    rcases hu with rfl | rfl | rfl <;> rfl
  · intro v' w' ho' hg _ hat
    refine h v' w' ⟨_, by simpa using ho', h2.grown hg h2.size (fun k hk => (World.ownsRow.lt h1 k hk).1), fun i u hu => ?_⟩
    have hne : ∀ y : Addr, y.block < w0.heap.size → v.ownBlock ≠ some y.block → v'.ownBlock ≠ some y.block := by
      intro y hy1 hy2 he
      rcases hat with e1 | e1
      · rw [e1] at he; exact hy2 he
      · rw [e1] at he
        simp at he; omega
    have hcl : cs.length = es.length * 3 := h1.1
    by_cases hlt : i < es.length
    · rw [List.getElem?_append_left hlt] at hu
      obtain ⟨ai, ci, c0, c1, c2, hr2, hx2⟩ := h3 i u hu
      have hx3 := hx3 i u hu ai ci c2
      refine ⟨ai, ci, by rw [List.getElem?_append_left (by omega)]; exact c0, by rw [List.getElem?_append_left (by omega)]; exact c1, by rw [List.getElem?_append_left (by omega)]; exact c2, hr2.kept hg hx2, fun y hy => ⟨?_, ?_⟩⟩
      · exact Nat.lt_of_lt_of_le (hx2 y hy).1 hg.size
      · exact hne y (hx3 y hy).1 (hx3 y hy).2
    · have hi : i = es.length := by
        have := (List.getElem?_eq_some_iff.1 hu).1
        simp at this; omega
      subst hi
      rw [List.getElem?_append_right (Nat.le_refl _), Nat.sub_self] at hu
      simp at hu
      subst hu
      refine ⟨ad, c, by rw [List.getElem?_append_right (by omega), hcl, Nat.sub_self]; rfl, by rw [List.getElem?_append_right (by omega), hcl, show es.length * 3 + 1 - es.length * 3 = 1 by omega]; rfl,
        by rw [List.getElem?_append_right (by omega), hcl, show es.length * 3 + 2 - es.length * 3 = 2 by omega]; rfl, ?_, fun y hy => ⟨?_, ?_⟩⟩
      · refine (hr.later ((Below.refl _ _).alloc (Nat.le_refl _) _)).kept hg (fun y hy => ⟨?_, (had y hy).2⟩)
        have := (had y hy).1
        simp; omega
      · have h5 := (had y hy).1
        have h6 := hg.size
        simp at h6
        omega
      · exact hne y (had y hy).1 (had y hy).2
end
end Go.Proofs.Ytiahifpbofkimaa
