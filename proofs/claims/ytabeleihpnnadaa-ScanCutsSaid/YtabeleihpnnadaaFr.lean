/- Frames: the contracts of package frame and of the document's own. -/
import Derived.Test.YtabeleihpnnadaaFrPlain
import Derived.Test.YtabeleihpnnadaaRv
import Derived.Test.YtabeleihpnnadaaPhase
import Derived.Test.YtabeleihpnnadaaRec
import Derived.Test.YtabeleihpnnadaaApp
import Derived.Test.YtabeleihpnnadaaInts
namespace Go.Proofs.Ytabeleihpnnadaa
open Go.RowKit
set_option linter.unusedVariables false

theorem rightE_no {t s : Int} {n : Nat} (h : ¬ (1 ≤ t ∧ t ≤ 1073741824 ∧ 1 ≤ s ∧ s ≤ 1099511627776 ∧ 1 ≤ n ∧ n ≤ 90)) : rightE t s n = false := by
  unfold rightE; exact decide_eq_false h

set_option maxHeartbeats 1000000 in
theorem frright_any (t s : Int) (a : Option Addr) (n c : Nat) (w : World) (hn : n ≤ 9223372036854775807) :
    Calls Try.prog 38 #[.agg #[.int .i64 t, .int .i64 s, .slice a n c]] w fun e w' => e = .returned (.bool (rightE t s n)) ∧ Below w.heap.size w w' := by
  by_cases h : 1 ≤ t ∧ t ≤ 1073741824 ∧ 1 ≤ s ∧ s ≤ 1099511627776 ∧ 1 ≤ n ∧ n ≤ 90
  · rw [rightE_iff.2 h]
    obtain ⟨h1, h2, h3, h4, h5, h6⟩ := h
    go_enter Try.func38, Try.ntmps38
    go_wp2
    go_ret
    exact ⟨ret_bool (by first | rfl | (simp; omega)), (Below.refl _ _).alloc (Nat.le_refl _) _⟩
  · rw [rightE_no h]
    rcases (show t < 1 ∨ (1 ≤ t ∧ 1073741824 < t) ∨ (1 ≤ t ∧ t ≤ 1073741824 ∧ s < 1) ∨ (1 ≤ t ∧ t ≤ 1073741824 ∧ 1 ≤ s ∧ 1099511627776 < s) ∨ (1 ≤ t ∧ t ≤ 1073741824 ∧ 1 ≤ s ∧ s ≤ 1099511627776 ∧ n < 1) ∨ (1 ≤ t ∧ t ≤ 1073741824 ∧ 1 ≤ s ∧ s ≤ 1099511627776 ∧ 1 ≤ n ∧ 90 < n) by omega) with h | h | h | h | h | h
    all_goals
      go_enter Try.func38, Try.ntmps38
      go_wp2
      go_ret
      exact ⟨ret_bool (by first | rfl | (simp; omega)), (Below.refl _ _).alloc (Nat.le_refl _) _⟩
set_option maxHeartbeats 1000000 in
theorem frrright_any (t s : Int) (a : Option Addr) (n c : Nat) (w : World) (hn : n ≤ 9223372036854775807) :
    Calls Try.prog 25 #[.agg #[.int .i64 t, .int .i64 s, .slice a n c]] w fun e w' => e = .returned (.bool (rightE t s n)) ∧ Below w.heap.size w w' := by
  by_cases h : 1 ≤ t ∧ t ≤ 1073741824 ∧ 1 ≤ s ∧ s ≤ 1099511627776 ∧ 1 ≤ n ∧ n ≤ 90
  · rw [rightE_iff.2 h]
    obtain ⟨h1, h2, h3, h4, h5, h6⟩ := h
    go_enter Try.func25, Try.ntmps25
    go_wp2
    go_ret
    exact ⟨ret_bool (by first | rfl | (simp; omega)), (Below.refl _ _).alloc (Nat.le_refl _) _⟩
  · rw [rightE_no h]
    rcases (show t < 1 ∨ (1 ≤ t ∧ 1073741824 < t) ∨ (1 ≤ t ∧ t ≤ 1073741824 ∧ s < 1) ∨ (1 ≤ t ∧ t ≤ 1073741824 ∧ 1 ≤ s ∧ 1099511627776 < s) ∨ (1 ≤ t ∧ t ≤ 1073741824 ∧ 1 ≤ s ∧ s ≤ 1099511627776 ∧ n < 1) ∨ (1 ≤ t ∧ t ≤ 1073741824 ∧ 1 ≤ s ∧ s ≤ 1099511627776 ∧ 1 ≤ n ∧ 90 < n) by omega) with h | h | h | h | h | h
    all_goals
      go_enter Try.func25, Try.ntmps25
      go_wp2
      go_ret
      exact ⟨ret_bool (by first | rfl | (simp; omega)), (Below.refl _ _).alloc (Nat.le_refl _) _⟩

theorem size_any (n : Int) (w : World) : Calls Try.prog 29 #[.int .i64 n] w fun e w' => e = .returned (.int .i64 (min (max n 0) 90 + 22)) ∧ w = w' := by
  rcases (show n < 0 ∨ (0 ≤ n ∧ 90 < n) ∨ (0 ≤ n ∧ n ≤ 90) by omega) with h | h | h
  all_goals
    go_enter Try.func29, Try.ntmps29
    go_wp2_with fail
    all_goals first
      | (go_ret; exact ⟨ret_int (by omega), rfl⟩)
      | (exfalso; omega)
set_option maxHeartbeats 400000 in
theorem number_any (a : Option Addr) (m cap : Nat) (l : List UInt8) (p k : Nat) (w : World) (hr : Row w a cap l) (hm : l.length = m) (hlen : m ≤ 100000) (hk : 1 ≤ k ∧ k ≤ 8) (hp : p + k ≤ m) :
    Calls Try.prog 37 #[.slice a m cap, .int .i64 p, .int .i64 k] w fun e w' => e = .returned (.int .i64 (wrap64 (fieldL l p k : Nat))) ∧ w = w' := by
  have HG : Hid (getA l p k = (fieldL l p k, true)) := by
    unfold Hid getA; rw [if_pos (by omega)]; rfl
  generalize fieldL l p k = G at HG ⊢
  go_enter Try.func37, Try.ntmps37
  go_wp2_with fail
  refine (get_any a m cap l p k w hr hm hlen (by omega) (by omega) (by omega) (by omega)).mono ?_
  rw [HG.out]
  rintro e w1 ⟨rfl, rfl⟩
  go_wp2_with fail
  go_ret
  exact ⟨rfl, rfl⟩

theorem rput_oV {l D : List UInt8} {W0 : World} (a : Option Addr) (m cap : Nat) (n : Nat) (k : Int) (w : World) (hr : Row w a cap l) (hm : l.length = m) (hlen : m ≤ 100000) (hn : n < 18446744073709551616) (hb : Below W0.heap.size W0 w) (hD : putA l n k = D) :
    Calls Try.prog 26 #[.slice a m cap, .int .u64 n, .int .i64 k] w fun e w' => ∃ v, e = .returned v ∧ (oV W0 D).p w' v ∧ Below w.heap.size w w' := by
  subst hD
  exact (rput_any a m cap l n k w hr hm hlen hn).mono fun e w' ⟨v, h, o⟩ => ⟨v, h, o.back hb, o.below⟩

set_option maxRecDepth 20000 in
set_option maxHeartbeats 3200000 in
theorem rlay_any (e : En) (ad : Option Addr) (c n : Nat) (w : World) (hr : Row w ad c e.data) (hn : e.data.length = n) (hn2 : n ≤ 9223372036854775807) :
    Calls Try.prog 21 #[.agg #[.int .i64 e.tag, .int .i64 e.seq, .slice ad n c]] w fun x w' => ∃ v, x = .returned (.tuple #[v, .int .i64 (layA e).2]) ∧ Own w w' v (layA e).1 := by
  have HB : Hid (Below w.heap.size w (w.alloc (.cells #[.int .i64 e.tag, .int .i64 e.seq, .slice ad n c] 38))) := Lib.hid ((Below.refl _ _).alloc (Nat.le_refl _) _)
  cases h : e.right with
  | false =>
    have HA := Lib.hid (layA_no h)
    unfold En.right at h
    rw [hn] at h
    have HH := Lib.hid h
    clear h
    go_enter Try.func21, Try.ntmps21
    go_wp2_with fail
    refine (frrright_any _ _ _ _ _ _ (by omega)).mono ?_
    rw [HH.out]
    rintro x w1 ⟨rfl, hb1⟩
    go_wp2_with fail
    go_ret2
    rw [HA.out]
    exact ⟨_, rfl, World.ownsRow_nil _ _ _ _, HB.out.trans (hb1.mono HB.out.size)⟩
  | true =>
    have HA := Lib.hid (layA_yes h)
    have HE := Lib.hid (show layL e = sealL (((((hgje ++ putL e.tag.toNat 4) ++ putL e.seq.toNat 8) ++ putL e.data.length 2)) ++ e.data) from rfl)
    have hc := rightE_iff.1 h
    unfold En.right at h
    rw [hn] at h hc
    have HH := Lib.hid h
    have HR := Lib.hid (RecAt.new w #[.int .i64 e.tag, .int .i64 e.seq, .slice ad n c] 38)
    have HL := Lib.hid hr
    clear hr h
    obtain ⟨t, s, d⟩ := e
    simp only at hc hn HR HB HL HH HE
    obtain ⟨t, rfl⟩ := Int.eq_ofNat_of_zero_le (show 0 ≤ t by omega)
    obtain ⟨s, rfl⟩ := Int.eq_ofNat_of_zero_le (show 0 ≤ s by omega)
    have HN := Lib.hid hn
    clear hn
    go_enter Try.func21, Try.ntmps21
    go_wp2_with fail
    refine (frrright_any _ _ _ _ _ _ (by omega)).mono ?_
    rw [HH.out]
    rintro x w1 ⟨rfl, hb1⟩
    have HR1 := Lib.hid (HR.out.later hb1)
    have HB1 := Lib.hid (HB.out.trans (hb1.mono HB.out.size))
    have he := own_empty (Below.refl w1.heap.size w1)
    go_wp2_with (at_builtin; refine wp_text rfl _ _ rfl _ _ rfl w1 he _ rfl (by decide) ?_; intro v4 w4 o4)
    have HR2 : Hid (RecAt w4 w.heap.size #[.int .i64 (t : Nat), .int .i64 (s : Nat), .slice ad n c] 38) := Lib.hid (HR1.out.later o4.below)
    have HB4 := Lib.hid (HB1.out.trans (o4.below.mono HB1.out.size))
    obtain ⟨a4, p4, rfl, r4⟩ := o4.row_n (n := 4) (by decide)
    have R4 : Hid (Row w4 a4 p4 hgje) := Lib.hid r4
    clear r4 o4 he
    go_wp2_with fail
    -- REG 4
    refine wp_region_ptab (L := fun ph => match ph with | _ => [cV (.slice a4 4 p4), cV (.pointer (some ⟨w.heap.size, 0, .none⟩)), cV (.int .i64 (t : Nat)), cV (.int .u64 (t : Nat)), oV w (hgje ++ putL t 4), cV (.pointer (some ⟨w.heap.size, 1, .none⟩)), cV (.int .i64 (s : Nat)), cV (.int .u64 (s : Nat)), oV w ((hgje ++ putL t 4) ++ putL s 8), cV (.pointer (some ⟨w.heap.size, 2, .none⟩)), cV (.slice ad n c), cV (.int .i64 (n : Nat)), cV (.int .u64 (n : Nat)), oV w (((hgje ++ putL t 4) ++ putL s 8) ++ putL n 2), oV w (((hgje ++ putL t 4) ++ putL s 8) ++ putL n 2)]) (fun _ wq => Below w4.heap.size w4 wq) [] [(0, 0), (0, 0), (0, 0), (0, 0), (0, 0), (0, 0), (0, 0), (0, 0), (0, 0), (0, 0), (0, 0), (0, 0), (0, 0), (0, 0), (0, 0)] [[(4, none)], [(1, none)], [(11, some 1)], [(12, some 2)], [(10, some 0), (13, some 3)], [(1, none)], [(15, some 5)], [(16, some 6)], [(14, some 4), (17, some 7)], [(1, none)], [(19, some 9)], [(20, some 10)], [(21, some 11)], [(18, some 8), (22, some 12)], [(23, some 13)]] 15 0 29 (by kernel_rfl) rfl rfl rfl (by kernel_rfl) (by kernel_rfl) (by decide) (by kernel_rfl) ?_ ?_ ?_ ?_ ?_
    · exact fun ph w1 w2 h hb => h.trans (hb.mono h.size)
    · exact Below.refl _ _
    · show ∀ i, i < 15 → _
      iterate 15 (refine fls ?_ ?_)
      · exact fl0
      · intro hne lo hi ph hran hp1 hp2 a w1 hJ hsz hs      -- 0: slot 10
        obtain ⟨rfl, rfl⟩ : 0 = lo ∧ 0 = hi := Prod.mk.inj (Option.some.inj hran)
        obtain rfl : ph = 0 := by omega
        obtain ⟨h0, _⟩ := hs
        have h0 : a.tmps.getD 4 undef = .slice a4 4 p4 := h0
        refine op_run rfl rfl (v := .slice a4 4 p4) (w' := w1) ?_ rfl (Below.refl _ _)
        simp [execOp, Act.eval, h0, go_sem]
      · intro hne lo hi ph hran hp1 hp2 a w1 hJ hsz hs      -- 1: slot 11
        obtain ⟨rfl, rfl⟩ : 0 = lo ∧ 0 = hi := Prod.mk.inj (Option.some.inj hran)
        obtain rfl : ph = 0 := by omega
        obtain ⟨h0, _⟩ := hs
        have h0 : a.tmps.getD 1 undef = .pointer (some ⟨w.heap.size, 0, .none⟩) := h0
        refine op_run rfl rfl (v := .pointer (some ⟨w.heap.size, 0, .none⟩)) (w' := w1) ?_ rfl (Below.refl _ _)
        simp [execOp, Act.eval, h0, go_sem]
      · intro hne lo hi ph hran hp1 hp2 a w1 hJ hsz hs      -- 2: slot 12
        obtain ⟨rfl, rfl⟩ : 0 = lo ∧ 0 = hi := Prod.mk.inj (Option.some.inj hran)
        obtain rfl : ph = 0 := by omega
        obtain ⟨h0, _⟩ := hs
        have h0 : a.tmps.getD 11 undef = .pointer (some ⟨w.heap.size, 0, .none⟩) := h0
        obtain ⟨c0, c1, c2⟩ := (HR2.out.later hJ).c3
        refine op_run rfl rfl (v := .int .i64 (t : Nat)) (w' := w1) ?_ rfl (Below.refl _ _)
        simp [execOp, Act.eval, h0, c0, go_sem]
      · intro hne lo hi ph hran hp1 hp2 a w1 hJ hsz hs      -- 3: slot 13
        obtain ⟨rfl, rfl⟩ : 0 = lo ∧ 0 = hi := Prod.mk.inj (Option.some.inj hran)
        obtain rfl : ph = 0 := by omega
        obtain ⟨h0, _⟩ := hs
        have h0 : a.tmps.getD 12 undef = .int .i64 (t : Nat) := h0
        have c : IntKind.u64.wrap ((t : Nat) : Int) = t := by rw [IntKind.wrap_u64]; omega
        refine op_run rfl rfl (v := .int .u64 (t : Nat)) (w' := w1) ?_ rfl (Below.refl _ _)
        simp [execOp, Act.eval, h0, c, go_sem]
      · intro hne lo hi ph hran hp1 hp2 a w1 hJ hsz hs      -- 4: slot 14
        obtain ⟨rfl, rfl⟩ : 0 = lo ∧ 0 = hi := Prod.mk.inj (Option.some.inj hran)
        obtain rfl : ph = 0 := by omega
        obtain ⟨h0, h1, _⟩ := hs
        have h0 : a.tmps.getD 10 undef = .slice a4 4 p4 := h0
        have h1 : a.tmps.getD 13 undef = .int .u64 (t : Nat) := h1
        refine op_call rfl rfl (f := 26) (args := #[.slice a4 4 p4, .int .u64 (t : Nat), .int .i64 4]) (by simp [execOp, Act.eval, resolve, h0, h1, go_sem]) ?_
        exact rput_oV (l := hgje) (W0 := w) a4 4 p4 t 4 w1 (R4.out.later hJ) (by decide) (by omega) (by omega) (HB4.out.trans (hJ.mono HB4.out.size)) rfl
      · intro hne lo hi ph hran hp1 hp2 a w1 hJ hsz hs      -- 5: slot 15
        obtain ⟨rfl, rfl⟩ : 0 = lo ∧ 0 = hi := Prod.mk.inj (Option.some.inj hran)
        obtain rfl : ph = 0 := by omega
        obtain ⟨h0, _⟩ := hs
        have h0 : a.tmps.getD 1 undef = .pointer (some ⟨w.heap.size, 0, .none⟩) := h0
        refine op_run rfl rfl (v := .pointer (some ⟨w.heap.size, 1, .none⟩)) (w' := w1) ?_ rfl (Below.refl _ _)
        simp [execOp, Act.eval, h0, go_sem]
      · intro hne lo hi ph hran hp1 hp2 a w1 hJ hsz hs      -- 6: slot 16
        obtain ⟨rfl, rfl⟩ : 0 = lo ∧ 0 = hi := Prod.mk.inj (Option.some.inj hran)
        obtain rfl : ph = 0 := by omega
        obtain ⟨h0, _⟩ := hs
        have h0 : a.tmps.getD 15 undef = .pointer (some ⟨w.heap.size, 1, .none⟩) := h0
        obtain ⟨c0, c1, c2⟩ := (HR2.out.later hJ).c3
        refine op_run rfl rfl (v := .int .i64 (s : Nat)) (w' := w1) ?_ rfl (Below.refl _ _)
        simp [execOp, Act.eval, h0, c1, go_sem]
      · intro hne lo hi ph hran hp1 hp2 a w1 hJ hsz hs      -- 7: slot 17
        obtain ⟨rfl, rfl⟩ : 0 = lo ∧ 0 = hi := Prod.mk.inj (Option.some.inj hran)
        obtain rfl : ph = 0 := by omega
        obtain ⟨h0, _⟩ := hs
        have h0 : a.tmps.getD 16 undef = .int .i64 (s : Nat) := h0
        have c : IntKind.u64.wrap ((s : Nat) : Int) = s := by rw [IntKind.wrap_u64]; omega
        refine op_run rfl rfl (v := .int .u64 (s : Nat)) (w' := w1) ?_ rfl (Below.refl _ _)
        simp [execOp, Act.eval, h0, c, go_sem]
      · intro hne lo hi ph hran hp1 hp2 a w1 hJ hsz hs      -- 8: slot 18
        obtain ⟨rfl, rfl⟩ : 0 = lo ∧ 0 = hi := Prod.mk.inj (Option.some.inj hran)
        obtain rfl : ph = 0 := by omega
        obtain ⟨h0, h1, _⟩ := hs
        have m0 : (oV w (hgje ++ putL t 4)).p w1 (a.tmps.getD 14 undef) := h0; obtain ⟨a0, p0, h0, r0⟩ := ov_row (n := 8) h0 (by simp [hgje, putL_len])
        have h1 : a.tmps.getD 17 undef = .int .u64 (s : Nat) := h1
        refine op_call rfl rfl (f := 26) (args := #[.slice a0 8 p0, .int .u64 (s : Nat), .int .i64 8]) (by simp [execOp, Act.eval, resolve, h0, h1, go_sem]) ?_
        exact rput_oV (l := hgje ++ putL t 4) (W0 := w) a0 8 p0 s 8 w1 r0 (by simp [hgje, putL_len]) (by omega) (by omega) (HB4.out.trans (hJ.mono HB4.out.size)) rfl
      · intro hne lo hi ph hran hp1 hp2 a w1 hJ hsz hs      -- 9: slot 19
        obtain ⟨rfl, rfl⟩ : 0 = lo ∧ 0 = hi := Prod.mk.inj (Option.some.inj hran)
        obtain rfl : ph = 0 := by omega
        obtain ⟨h0, _⟩ := hs
        have h0 : a.tmps.getD 1 undef = .pointer (some ⟨w.heap.size, 0, .none⟩) := h0
        refine op_run rfl rfl (v := .pointer (some ⟨w.heap.size, 2, .none⟩)) (w' := w1) ?_ rfl (Below.refl _ _)
        simp [execOp, Act.eval, h0, go_sem]
      · intro hne lo hi ph hran hp1 hp2 a w1 hJ hsz hs      -- 10: slot 20
        obtain ⟨rfl, rfl⟩ : 0 = lo ∧ 0 = hi := Prod.mk.inj (Option.some.inj hran)
        obtain rfl : ph = 0 := by omega
        obtain ⟨h0, _⟩ := hs
        have h0 : a.tmps.getD 19 undef = .pointer (some ⟨w.heap.size, 2, .none⟩) := h0
        obtain ⟨c0, c1, c2⟩ := (HR2.out.later hJ).c3
        refine op_run rfl rfl (v := .slice ad n c) (w' := w1) ?_ rfl (Below.refl _ _)
        simp [execOp, Act.eval, h0, c2, go_sem]
      · intro hne lo hi ph hran hp1 hp2 a w1 hJ hsz hs      -- 11: slot 21
        obtain ⟨rfl, rfl⟩ : 0 = lo ∧ 0 = hi := Prod.mk.inj (Option.some.inj hran)
        obtain rfl : ph = 0 := by omega
        obtain ⟨h0, _⟩ := hs
        have h0 : a.tmps.getD 20 undef = .slice ad n c := h0
        refine op_run rfl rfl (v := .int .i64 (n : Nat)) (w' := w1) ?_ rfl (Below.refl _ _)
        simp [execOp, Act.eval, h0, go_sem]
      · intro hne lo hi ph hran hp1 hp2 a w1 hJ hsz hs      -- 12: slot 22
        obtain ⟨rfl, rfl⟩ : 0 = lo ∧ 0 = hi := Prod.mk.inj (Option.some.inj hran)
        obtain rfl : ph = 0 := by omega
        obtain ⟨h0, _⟩ := hs
        have h0 : a.tmps.getD 21 undef = .int .i64 (n : Nat) := h0
        have c : IntKind.u64.wrap ((n : Nat) : Int) = n := by rw [IntKind.wrap_u64]; omega
        refine op_run rfl rfl (v := .int .u64 (n : Nat)) (w' := w1) ?_ rfl (Below.refl _ _)
        simp [execOp, Act.eval, h0, c, go_sem]
      · intro hne lo hi ph hran hp1 hp2 a w1 hJ hsz hs      -- 13: slot 23
        obtain ⟨rfl, rfl⟩ : 0 = lo ∧ 0 = hi := Prod.mk.inj (Option.some.inj hran)
        obtain rfl : ph = 0 := by omega
        obtain ⟨h0, h1, _⟩ := hs
        have m0 : (oV w ((hgje ++ putL t 4) ++ putL s 8)).p w1 (a.tmps.getD 18 undef) := h0; obtain ⟨a0, p0, h0, r0⟩ := ov_row (n := 16) h0 (by simp [hgje, putL_len])
        have h1 : a.tmps.getD 22 undef = .int .u64 (n : Nat) := h1
        refine op_call rfl rfl (f := 26) (args := #[.slice a0 16 p0, .int .u64 (n : Nat), .int .i64 2]) (by simp [execOp, Act.eval, resolve, h0, h1, go_sem]) ?_
        exact rput_oV (l := (hgje ++ putL t 4) ++ putL s 8) (W0 := w) a0 16 p0 n 2 w1 r0 (by simp [hgje, putL_len]) (by omega) (by omega) (HB4.out.trans (hJ.mono HB4.out.size)) rfl
      · intro hne lo hi ph hran hp1 hp2 a w1 hJ hsz hs      -- 14: slot 4
        obtain ⟨rfl, rfl⟩ : 0 = lo ∧ 0 = hi := Prod.mk.inj (Option.some.inj hran)
        obtain rfl : ph = 0 := by omega
        obtain ⟨h0, _⟩ := hs
        have m0 : (oV w (((hgje ++ putL t 4) ++ putL s 8) ++ putL n 2)).p w1 (a.tmps.getD 23 undef) := h0; obtain ⟨a0, p0, h0, r0⟩ := ov_row (n := 18) h0 (by simp [hgje, putL_len])
        exact op_run rfl rfl (v := a.tmps.getD 23 undef) (w' := w1) (by simp [execOp, Act.eval, go_sem]) m0 (Below.refl _ _)
    · show ∀ ph, ph < 0 → _
      iterate 0 (refine fls ?_ ?_)
      · exact fl0
    · intro f w1 hJ hv
      have e4 : (oV w (((hgje ++ putL t 4) ++ putL s 8) ++ putL n 2)).p w1 (f 4) := hv 14 _ 4 rfl rfl
      clear hv
      try simp only [Exit.then]
      simp only [putAll, List.foldl_cons, List.foldl_nil, Option.getD_some, Act.put, List.setIfInBounds_toArray, List.set_cons_succ, List.set_cons_zero]
      generalize f 4 = v5 at e4 ⊢
      have o6 : Own w w1 v5 (((hgje ++ putL t 4) ++ putL s 8) ++ putL n 2) := e4
      have HR5 := Lib.hid (HR2.out.later hJ)
      have HB5 := Lib.hid (HB4.out.trans (hJ.mono HB4.out.size))
      clear e4 hJ
      obtain ⟨c0, c1, c2⟩ := HR5.out.c3
      go_wp2_with (at_builtin; refine wp_row rfl _ _ rfl _ _ rfl w o6 ad c n d (HL.out.later HB5.out) HN.out rfl (by have := HN.out; simp [hgje, putL_len]; omega) ?_; intro v6 w6 o7)
      obtain ⟨a7, p7, rfl, r7⟩ := o7.row_n (n := 18 + n) (by simp [hgje, putL_len, HN.out]; omega)
      have b7 := Lib.hid o7.below
      clear o7 o6 c0 c1 c2
      go_wp2_with fail
      refine (rseal_any a7 (18 + n) p7 _ w6 r7 (by simp [hgje, putL_len, HN.out]; omega) (by omega)).mono ?_
      rintro x w8 ⟨v8, rfl, o8⟩
      have o9 := Lib.hid (o8.back b7.out)
      clear o8
      go_wp2_with fail
      go_ret2
      rw [HA.out, HE.out, HN.out]
      exact ⟨_, rfl, o9.out⟩
    -- END 4
end Go.Proofs.Ytabeleihpnnadaa
