/- Ways: the program's own helpers: unlike, lay, begin; copy of bytes onto a row of one's own. | Ways: the program's own Bytes. | Ways: the program's own Long, Way. -/
import Derived.Test.YtbpddcmehjgleaaGDb
import Derived.Test.YtbpddcmehjgleaaCl
import Derived.Test.YtbpddcmehjgleaaMdK
import Derived.Laws.CopyOwn
namespace Go.Proofs.Ytbpddcmehjgleaa
open Go.RowKit Go.Proofs
set_option linter.unusedVariables false
set_option linter.unusedSimpArgs false
set_option linter.unnecessarySimpa false

/-! ### bytes copied onto a row of one's own -/
section
variable {ops : Array Oper} {rest : List Oper} {o : Oper} {a : Act} {Q : Exit → Act → World → Prop}
theorem wp_copyB {w : World} (hgd : o.guard = none) (d s : Operand) (ho : o.op = .call { callee := .builtin .copy, args := #[d, s], argTypes := #[22, 22] })
    (W0 : World) (g n cap : Nat) (ts : List UInt8) (hown : Own W0 w (.slice (some ⟨g, 0, none⟩) n cap) ts) (hn : ts.length = n) (ad : Option Addr) (m c2 : Nat) (us : List UInt8) (hr : Row w ad c2 us) (hm : us.length = m)
    (hd : a.eval d = .slice (some ⟨g, 0, none⟩) n cap) (hs : a.eval s = .slice ad m c2)
    (h : ∀ w' v, Own W0 w' (.slice (some ⟨g, 0, none⟩) n cap) (us.take n ++ ts.drop m) → wpList Try.prog ops Q rest (a.put o.dst v) w') : wpList Try.prog ops Q (o :: rest) a w := by
  subst hn hm
  rcases hown.1.2 with ⟨hv, hz⟩ | ⟨g', cap', cur, hv, hb, hg, hnc, hc, hss, ht⟩
  · cases hv
  · obtain ⟨rfl, rfl⟩ : g = g' ∧ cap = cap' := by simp only [Value.slice.injEq, Option.some.injEq, Addr.mk.injEq, and_true, true_and] at hv; exact hv
    have hl0 : (us.take ts.length).length = Nat.min us.length ts.length := by rw [List.length_take, Nat.min_comm]
    have hcl : ((us.take ts.length).map B8).length = Nat.min us.length ts.length := by rw [List.length_map, hl0]
    have hmn : Nat.min us.length ts.length ≤ ts.length := Nat.min_le_right _ _
    rw [Nat.mul_one] at hss ht
    have h5 : cur.toList.length = cap := by rw [Array.length_toList, hss]
    refine wpList_copy_splice hgd d s _ _ ho 5 Try.underlying22 (by kernel_rfl) _ ad _ cap us.length c2 hd hs g 0 cur.toList 5 (by simpa using hg) ((us.take ts.length).map B8) hcl ?_ ?_ (fun v hv => by obtain ⟨u, _, rfl⟩ := List.mem_map.1 hv; rfl) W0.heap.size W0 hown.2 hb ?_
    · intro h0
      refine ⟨rfl, ?_⟩
      cases ad with
      | none =>
        obtain ⟨rfl, _⟩ := hr.of_nil
        simp at h0
      | some x =>
        refine ⟨x, rfl, fun j v hv => ?_⟩
        rw [List.getElem?_map] at hv
        cases hj : (us.take ts.length)[j]? with
        | none => rw [hj] at hv; cases hv
        | some u =>
          rw [hj] at hv
          simp only [Option.map_some, Option.some.injEq] at hv
          subst hv
          rw [List.getElem?_take] at hj
          split at hj
          · exact hr.2.2.2 x rfl j u hj
          · cases hj
    · rw [hcl, h5, Nat.zero_add]; exact Nat.le_trans hmn hnc
    · intro w' hg' hb'
      have e9 : (us.take ts.length ++ ts.drop us.length).length = ts.length := by simp only [List.length_append, List.length_take, List.length_drop]; omega
      refine h w' _ ⟨⟨?_, .inr ⟨g, cap, _, by rw [e9], hb, hg'.out, ?_, hc, ?_, ?_⟩⟩, hb'⟩
      · rw [List.length_map, Nat.mul_one]
      · rw [e9]; exact hnc
      · rw [Nat.mul_one, List.size_toArray, length_splice _ _ _ (by rw [hcl, Nat.zero_add, h5]; exact Nat.le_trans hmn hnc), h5]
      · rw [Nat.mul_one, e9]
        unfold splice
        have e2 : ts.drop us.length = ts.drop (Nat.min us.length ts.length) := by
          by_cases c : us.length ≤ ts.length
          · rw [show Nat.min us.length ts.length = us.length from Nat.min_eq_left c]
          · rw [show Nat.min us.length ts.length = ts.length from Nat.min_eq_right (by omega), List.drop_of_length_le (by omega), List.drop_of_length_le (by omega)]
        have hk : Nat.min us.length ts.length + (ts.length - Nat.min us.length ts.length) = ts.length := by omega
        rw [e2, List.map_append, List.map_drop, ← ht, hcl, List.take_zero, List.nil_append, Nat.zero_add, List.drop_take]
        show (((us.take ts.length).map B8) ++ cur.toList.drop (Nat.min us.length ts.length)).take ts.length = _
        rw [List.take_append, hcl, List.take_of_length_le (by rw [hcl]; exact hmn)]
end

theorem runU_at (s b : List UInt8) (I : Nat) : ∀ r q, runU s b (I + q) r = runU (s.drop I) (b.drop I) q r
  | 0, q => rfl
  | r + 1, q => by
    show (if I + q < b.length ∧ s[I + q]? ≠ b[I + q]? then runU s b (I + q + 1) r + 1 else 0) = if q < (b.drop I).length ∧ (s.drop I)[q]? ≠ (b.drop I)[q]? then runU (s.drop I) (b.drop I) (q + 1) r + 1 else 0
    rw [List.getElem?_drop, List.getElem?_drop, List.length_drop, Nat.add_assoc, runU_at s b I r (q + 1)]
    by_cases c : I + q < b.length
    · simp only [c, show q < b.length - I by omega]
    · rw [if_neg (fun h => c h.1), if_neg (fun h => c (by have := h.1; omega))]

set_option maxRecDepth 20000 in
set_option maxHeartbeats 3200000 in
theorem punlike_any (a1 a2 : Option Addr) (n c1 c2 : Nat) (s t : List UInt8) (w : World) (h1 : Row w a1 c1 s) (h2 : Row w a2 c2 t) (hn : s.length = n) (hm : t.length = n) (hb : n ≤ 100000) :
    Calls Try.prog 28 #[.slice a1 n c1, .slice a2 n c2] w fun e w' => e = .returned (.int .i64 (runU s t 0 64 : Nat)) ∧ ∃ z, w' = w.drewN z := by
  have HR1 := Lib.hid h1
  have HR2 := Lib.hid h2
  have HN := Lib.hid hn
  have HM := Lib.hid hm
  clear h1 h2 hn hm
  go_enter Try.func28, Try.ntmps28
  go_wp2_with fail
  go_loopw [5] (fun k wr => ∃ q : Nat, k = .int .i64 q ∧ q ≤ 64 ∧ q ≤ n ∧ (∃ z, wr = w.drewN z) ∧ Hid (∀ j, j < q → j < t.length ∧ s[j]? ≠ t[j]?)) (fun k _ => 64 - (intOf k).toNat)
  case atStart => exact ⟨0, rfl, by omega, by omega, ⟨0, rfl⟩, Lib.hid fun j h => by omega⟩
  case round =>
    obtain ⟨q, rfl, hq64, hqn, ⟨z, rfl⟩, HU⟩ := hrel
    have HEND : Hid (∀ r, runU s t q r = 0 → q + r = 64 → runU s t 0 64 = q) := Lib.hid fun r h3 h4 => by
      have h5 := runU_skip s t q 0 r (fun j _ h => HU.out j (by omega))
      rw [Nat.zero_add] at h5
      rw [h4] at h5
      rw [h5, h3]; rfl
    by_cases h1 : q < n
    · have hd1 : decide ((q : Int) < (n : Int)) = true := decide_eq_true (by omega)
      by_cases h2 : q < 64
      · have hd2 : decide ((q : Int) < 64) = true := decide_eq_true (by omega)
        obtain ⟨x, hx⟩ : ∃ x, s[q]? = some x := ⟨_, List.getElem?_eq_getElem (by rw [HN.out]; exact h1)⟩
        obtain ⟨y, hy⟩ : ∃ x, t[q]? = some x := ⟨_, List.getElem?_eq_getElem (by rw [HM.out]; exact h1)⟩
        obtain ⟨b1, f1, hb1, p1⟩ := HR1.out.at (by rw [HN.out]; omega)
        obtain ⟨b2, f2, hb2, p2⟩ := HR2.out.at (by rw [HM.out]; omega)
        subst hb1 hb2
        have k1 := p1 q x hx
        have k2 := p2 q y hy
        simp only [B8] at k1 k2
        obtain ⟨XV, hXV⟩ : ∃ v, (x.toNat : Int) = v := ⟨_, rfl⟩
        obtain ⟨YV, hYV⟩ : ∃ v, (y.toNat : Int) = v := ⟨_, rfl⟩
        rw [hXV] at k1
        rw [hYV] at k2
        by_cases hxy : x = y
        · have hne : (XV != YV) = false := by subst hxy; rw [← hXV, ← hYV]; simp
          have HRU : Hid (runU s t 0 64 = q) := Lib.hid (HEND.out (64 - q) (runU_zero (.inr (.inr (by rw [hx, hy, hxy])))) (by omega))
          clear hXV hYV hx hy hxy p1 p2 HU HEND
          go_upto_region 2 with fail
          go_quiet (fail)
          go_wp2_with fail
          go_ret
          exact ⟨ret_int (by have := HRU.out; omega), _, World.drewN_drewN _ _ _⟩
        · have hne : (XV != YV) = true := by
            rw [← hXV, ← hYV]; simp; intro e; exact hxy (UInt8.toNat_inj.1 (by omega))
          have HU2 : Hid (∀ j, j < q + 1 → j < t.length ∧ s[j]? ≠ t[j]?) := Lib.hid fun j h4 => by
            by_cases e : j = q
            · subst e; exact ⟨by rw [HM.out]; exact h1, by rw [hx, hy]; intro e; cases e; exact hxy rfl⟩
            · exact HU.out j (by omega)
          clear hXV hYV hx hy hxy p1 p2 HU HEND
          go_upto_region 2 with fail
          go_quiet (fail)
          go_wp2_with fail
          go_roundw
          case rel => exact ⟨q + 1, by go_num, by omega, by omega, ⟨_, rfl⟩, HU2⟩
          case measure => simp [intOf]; omega
      · have hd2 : decide ((q : Int) < 64) = false := decide_eq_false (by omega)
        have HRU : Hid (runU s t 0 64 = q) := Lib.hid (HEND.out (64 - q) (runU_zero (.inl (by omega))) (by omega))
        clear HU HEND
        go_upto_region 2 with fail
        go_quiet (fail)
        go_wp2_with fail
        go_ret
        exact ⟨ret_int (by have := HRU.out; omega), _, World.drewN_drewN _ _ _⟩
    · have hd1 : decide ((q : Int) < (n : Int)) = false := decide_eq_false (by omega)
      have HRU : Hid (runU s t 0 64 = q) := Lib.hid (HEND.out (64 - q) (runU_zero (.inr (.inl (by rw [HM.out]; omega)))) (by omega))
      clear HU HEND
      go_upto_region 2 with fail
      go_quiet (fail)
      go_wp2_with fail
      go_ret
      exact ⟨ret_int (by have := HRU.out; omega), _, World.drewN_drewN _ _ _⟩

/-! ### the event of a piece -/
def pieceL (I : Int) (p : List UInt8) : Ev := if p.all (fun x => decide (x = 0)) then ⟨3, I, p.length, [], []⟩ else ⟨1, I, 0, p, []⟩
theorem pieceL_is {b : List UInt8} {I N : Nat} (h : I + N ≤ b.length) : pieceL I ((b.drop I).take N) = pieceD b I N := by
  unfold pieceL pieceD
  rw [show ((b.drop I).take N).length = N by rw [List.length_take, List.length_drop]; omega]
theorem EvOw.back {W0 W1 w : World} {cs : Array Value} {e : Ev} (h : EvOw W1 w cs e) (hb : Below W0.heap.size W0 W1) : EvOw W0 w cs e := by
  obtain ⟨a, c, h1, h2, h3⟩ := h
  exact ⟨a, c, h1, h2, h3.back hb⟩
theorem EvOw.below {W0 w : World} {cs : Array Value} {e : Ev} (h : EvOw W0 w cs e) : Below W0.heap.size W0 w := by
  obtain ⟨a, c, h1, h2, h3⟩ := h
  exact h3.below
set_option maxRecDepth 20000 in
set_option maxHeartbeats 3200000 in
theorem play_any (I : Int) (a : Option Addr) (n c : Nat) (p : List UInt8) (w : World) (h : Row w a c p) (hn : p.length = n) (hb : n ≤ 100000) :
    Calls Try.prog 29 #[.int .i64 I, .slice a n c] w fun e w' => ∃ cs, e = .returned (.agg cs) ∧ EvOw w w' cs (pieceL I p) := by
  have HBA := Lib.hid ((Below.refl w.heap.size w).alloc (Nat.le_refl _) (.cells zeroEv 46))
  have HPN := Lib.hid (RecAt.new w zeroEv 46)
  have HR := Lib.hid (h.later HBA.out)
  have HN := Lib.hid hn
  clear h hn
  go_enter Try.func29, Try.ntmps29
  go_upto_region 1 with fail
  obtain ⟨w1, hw1⟩ : ∃ W, w.alloc (.cells zeroEv 46) = W := ⟨_, rfl⟩
  rw [hw1] at HPN HBA HR
  have hw2 : w.alloc (.cells (#[.int .i64 0, .int .i64 0, .int .i64 0, .slice none 0 0, .string ⟨#[]⟩] : Array Value) 46) = w1 := hw1
  rw [hw2]
  clear hw1 hw2
  obtain ⟨P, hP⟩ : ∃ P, w.heap.size = P := ⟨_, rfl⟩
  rw [hP] at HPN ⊢
  have HPS := Lib.hid hP
  clear hP
  go_wp2_with fail
  go_loopw [9] (fun k wr => ∃ q : Nat, k = .int .i64 q ∧ q ≤ n ∧ wr = w1 ∧ Hid ((p.take q).all (fun x => decide (x = 0)) = true)) (fun k _ => n - (intOf k).toNat)
  case atStart => exact ⟨0, rfl, by omega, rfl, Lib.hid (by simp)⟩
  case round =>
    obtain ⟨q, rfl, hqn, rfl, HZ⟩ := hrel
    by_cases h1 : (q : Int) < n
    · have hd1 : decide ((q : Int) < (n : Int)) = true := decide_eq_true h1
      obtain ⟨y, hy⟩ : ∃ x, p[q]? = some x := ⟨_, List.getElem?_eq_getElem (by rw [HN.out]; omega)⟩
      obtain ⟨b2, f2, hb2, p2⟩ := HR.out.at (by rw [HN.out]; omega)
      subst hb2
      have k2 := p2 q y hy
      simp only [B8] at k2
      obtain ⟨YV, hYV⟩ : ∃ v, (y.toNat : Int) = v := ⟨_, rfl⟩
      rw [hYV] at k2
      by_cases hy0 : y = 0
      · have hne : (YV != 0) = false := by subst hy0; rw [← hYV]; rfl
        have HZ2 : Hid ((p.take (q + 1)).all (fun x => decide (x = 0)) = true) := Lib.hid (by rw [List.take_add_one, hy, List.all_append, HZ.out]; simp [hy0])
        clear hYV hy hy0 p2 HZ
        go_wp2_with fail
        go_roundw
        case rel => exact ⟨q + 1, by go_num, by omega, by trivial, HZ2⟩
        case measure => simp [intOf]; omega
      · have hne : (YV != 0) = true := by
          rw [← hYV]; simp; intro e; exact hy0 (UInt8.toNat_inj.1 (by simpa using e))
        have HPL : Hid (pieceL I p = ⟨1, I, 0, p, []⟩) := Lib.hid (by
          unfold pieceL
          rw [if_neg]
          intro h
          rw [List.all_eq_true] at h
          exact hy0 (of_decide_eq_true (h y (List.mem_of_getElem? hy))))
        clear hYV hy hy0 p2 HZ
        go_wp2_with fail
        refine (clone_any (some ⟨b2, f2, none⟩) n c p wr HR.out HN.out hb).mono ?_
        rintro e w2 ⟨v, rfl, o2⟩
        obtain ⟨a5, c5, rfl, -⟩ := o2.row_n HN.out
        go_wp2_with (refine wpList_rec rfl rfl P zeroEv #[.int .i64 1, .int .i64 I, .int .i64 0, .slice a5 n c5, .string ⟨#[]⟩] rfl rfl (HPN.out.later o2.below) rfl (by kernel_rfl) (by simp [Value.oneCell']) ?_; intro w4 r1 r2 r3 r4)
        refine bodyPost_ret (results_c rfl rfl r1 Try.underlying46 rfl (by kernel_rfl)) rfl ?_
        have HN5 := o2.neT (HPN.out.later o2.below) (by decide)
        have hO4 := (o2.back HBA.out).keptG r4 (.inr HN5) (fun q e => by cases e; rw [HPS.out]; exact Nat.le_refl _)
        refine ⟨_, rfl, a5, c5, ?_, ?_, ?_⟩
        · rw [HPL.out]
          show _ = (#[.int .i64 1, .int .i64 I, .int .i64 0, .slice a5 p.length c5, .string ⟨#[]⟩] : Array Value)
          rw [HN.out]
        · rw [HPL.out]
        · rw [HPL.out]
          show Own w w4 (.slice a5 p.length c5) p
          rw [HN.out]; exact hO4
    · have hd1 : decide ((q : Int) < (n : Int)) = false := decide_eq_false h1
      have HPL : Hid (pieceL I p = ⟨3, I, n, [], []⟩) := Lib.hid (by
        have h := HZ.out
        rw [List.take_of_length_le (by rw [HN.out]; omega)] at h
        unfold pieceL
        rw [if_pos h, HN.out])
      clear HZ
      go_wp2_with (refine wpList_rec rfl rfl P zeroEv #[.int .i64 3, .int .i64 I, .int .i64 n, .slice none 0 0, .string ⟨#[]⟩] rfl rfl HPN.out rfl (by kernel_rfl) (by simp [Value.oneCell']) ?_; intro w4 r1 r2 r3 r4)
      refine bodyPost_ret (results_c rfl rfl r1 Try.underlying46 rfl (by kernel_rfl)) rfl ?_
      rw [HPL.out]
      exact ⟨_, rfl, none, 0, rfl, rfl, Own.nil' (HBA.out.grown r4 HBA.out.size (fun q e => by cases e; rw [HPS.out]; exact Nat.le_refl _))⟩

/-! ### snapshots that both begin with -/
set_option maxRecDepth 20000 in
set_option maxHeartbeats 6400000 in
theorem pbegin_any (a1 a2 : Option Addr) (ns ms c1 c2 : Nat) (l m : List Od) (J1 J2 : Nat → Prop) (w : World) (h1 : QO J1 w (.slice a1 ns c1) l) (h2 : QO J2 w (.slice a2 ms c2) m) (hn : l.length = ns) (hm : m.length = ms) (hb : ns ≤ 100000) :
    Calls Try.prog 35 #[.slice a1 ns c1, .slice a2 ms c2] w fun e w' => e = .returned (.int .i64 (preK l m : Nat)) ∧ Below w.heap.size w w' := by
  have HRS := Lib.hid h1
  have HTS := Lib.hid h2
  have HNS := Lib.hid hn
  have HMS := Lib.hid hm
  obtain ⟨K, hK⟩ : ∃ K, preK l m = K := ⟨_, rfl⟩
  rw [hK]
  have HKS : Hid (∀ k, k ≤ ns → k ≤ ms → (∀ j, j < k → l[j]? = m[j]?) → (k = ns ∨ k = ms ∨ l[k]? ≠ m[k]?) → K = k) := Lib.hid fun k q1 q2 q3 q4 => by
    rw [← hK]; exact preK_is k _ _ (by rw [hn]; exact q1) (by rw [hm]; exact q2) q3 (by rw [hn, hm]; exact q4)
  obtain ⟨hl1, hl2⟩ := h1.lim
  obtain ⟨hl3, hl4⟩ := h2.lim
  clear h1 h2 hn hm hK
  go_enter Try.func35, Try.ntmps35
  go_wp2_with fail
  go_loopw [5] (fun k wr => ∃ q : Nat, k = .int .i64 q ∧ q ≤ ns ∧ q ≤ ms ∧ Hid (Below w.heap.size w wr) ∧ Hid (∀ j, j < q → l[j]? = m[j]?)) (fun k _ => ns - (intOf k).toNat)
  case atStart => exact ⟨0, rfl, by omega, by omega, Lib.hid (Below.refl _ _), Lib.hid fun j h => by omega⟩
  case round =>
    obtain ⟨q, rfl, hq1, hq2, HB, HA⟩ := hrel
    obtain ⟨wo, hwo⟩ : ∃ W, W = wr := ⟨_, rfl⟩
    subst hwo
    have HBD : Hid (∀ z, Below w.heap.size w (wo.drewN z)) := Lib.hid fun z => HB.out.trans ((below_drewN wo z).mono HB.out.size)
    by_cases hqn : q < ns
    · have hd1 : decide ((q : Int) < (ns : Int)) = true := decide_eq_true (by omega)
      by_cases hqm : q < ms
      · have hd2 : decide ((q : Int) < (ms : Int)) = true := decide_eq_true (by omega)
        obtain ⟨e, he⟩ : ∃ e, l[q]? = some e := ⟨l[q]'(by have := HNS.out; omega), List.getElem?_eq_getElem _⟩
        obtain ⟨u, hu⟩ : ∃ e, m[q]? = some e := ⟨m[q]'(by have := HMS.out; omega), List.getElem?_eq_getElem _⟩
        obtain ⟨b1, f1, N1, e1, k1, rfl, p0, p1, hN1, -, R1⟩ := (HRS.out.later od_rel HB.out).o2 he
        obtain ⟨b2, f2, N2, e2, k2, rfl, r0, r1, hN2, -, R2⟩ := (HTS.out.later od_rel HB.out).o2 hu
        have HEC := Lib.hid fun nq => equal_any e1 e2 e.data.length u.data.length k1 k2 e.data u.data (wo.drewN nq) (R1.later (below_drewN wo nq)) (R2.later (below_drewN wo nq)) rfl rfl
        have HNM := Lib.hid (str_iff hN1 hN2)
        have HNE : Hid (e ≠ u → K = q) := Lib.hid fun h => HKS.out q hq1 hq2 HA.out (.inr (.inr fun h2 => by rw [he, hu] at h2; exact h (Option.some.inj h2)))
        have HEQ : Hid (e = u → ∀ k, k < q + 1 → l[k]? = m[k]?) := Lib.hid fun h k hk => by
          by_cases c : k = q
          · subst c; rw [he, hu, h]
          · exact HA.out k (by omega)
        clear he hu R1 R2 hN1 hN2
        obtain ⟨L1, hL1⟩ : ∃ z, e.data.length = z := ⟨_, rfl⟩
        obtain ⟨L2, hL2⟩ : ∃ z, u.data.length = z := ⟨_, rfl⟩
        obtain ⟨BB, hBB⟩ : ∃ z, decide (e.data = u.data) = z := ⟨_, rfl⟩
        simp only [hL1, hL2, hBB] at p1 r1 HEC
        clear hL1 hL2
        by_cases hnn : e.name = u.name
        · have hqa : (N1.toList == N2.toList) = true := (sbeq_iff _ _).2 (HNM.out.2 hnn)
          by_cases hdd : e.data = u.data
          · have hB1 : BB = true := by rw [← hBB]; exact decide_eq_true hdd
            have HA2 := Lib.hid (HEQ.out (od_eq hnn hdd))
            clear hnn hdd HA hBB
            subst hB1
            go_upto_region 2 with fail
            go_quiet ((go_at_call 40; exact Calls.quiet_of_same ((HEC.out _).mono fun e w' hh => ⟨hh.1, hh.2.symm⟩)))
            go_wp2_with fail
            go_roundw
            case rel => exact ⟨q + 1, by go_num, by omega, by omega, Lib.hid (HBD.out _), HA2⟩
            case measure => simp [intOf]; omega
          · have hB1 : BB = false := by rw [← hBB]; exact decide_eq_false hdd
            have HF := Lib.hid (HNE.out (od_ne_data hdd))
            clear hnn hdd HA hBB
            subst hB1
            go_upto_region 2 with fail
            go_quiet ((go_at_call 40; exact Calls.quiet_of_same ((HEC.out _).mono fun e w' hh => ⟨hh.1, hh.2.symm⟩)))
            go_wp2_with fail
            go_ret
            exact ⟨ret_int (by have := HF.out; omega), HBD.out _⟩
        · have hqa : (N1.toList == N2.toList) = false := sbeq_no fun h => hnn (HNM.out.1 h)
          have HF := Lib.hid (HNE.out (od_ne_name hnn))
          clear hnn HA hBB
          go_upto_region 2 with fail
          go_quiet (fail)
          go_wp2_with fail
          go_ret
          exact ⟨ret_int (by have := HF.out; omega), HBD.out _⟩
      · have hd2 : decide ((q : Int) < (ms : Int)) = false := decide_eq_false (by omega)
        have HF := Lib.hid (HKS.out q hq1 hq2 HA.out (.inr (.inl (by omega))))
        go_upto_region 2 with fail
        go_quiet (fail)
        go_wp2_with fail
        go_ret
        exact ⟨ret_int (by have := HF.out; omega), HBD.out _⟩
    · have hd1 : decide ((q : Int) < (ns : Int)) = false := decide_eq_false (by omega)
      have HF := Lib.hid (HKS.out q hq1 hq2 HA.out (.inl (by omega)))
      go_upto_region 2 with fail
      go_quiet (fail)
      go_wp2_with fail
      go_ret
      exact ⟨ret_int (by have := HF.out; omega), HBD.out _⟩
end Go.Proofs.Ytbpddcmehjgleaa
namespace Go.Proofs.Ytbpddcmehjgleaa
open Go.RowKit Go.Proofs
set_option linter.unusedVariables false
set_option linter.unusedSimpArgs false
set_option linter.unnecessarySimpa false

set_option maxRecDepth 100000 in
set_option maxHeartbeats 12800000 in
theorem pbytes15_any (a1 a2 : Option Addr) (n m c1 c2 : Nat) (la lb : List UInt8) (w : World) (h1 : Row w a1 c1 la) (h2 : Row w a2 c2 lb) (hn : la.length = n) (hm : lb.length = m) :
    Calls Try.prog 12 #[.slice a1 n c1, .slice a2 m c2] w fun e w' => ∃ v, e = .returned v ∧ OEv (newB w) w w' v (bytesD la lb) := by
  have HN := Lib.hid hn
  have HM := Lib.hid hm
  have HR1 := Lib.hid h1
  have HR2 := Lib.hid h2
  obtain ⟨hmc2, hcm2⟩ := h2.lim hm
  obtain ⟨BD, hBD⟩ : ∃ z, bytesD la lb = z := ⟨_, rfl⟩
  rw [hBD]
  have HBD := Lib.hid hBD
  clear h1 h2 hn hm hBD
  go_enter Try.func12, Try.ntmps12
  by_cases hfar : 512 < n ∨ 512 < m
  · have HF : Hid (BD = []) := Lib.hid (by rw [← HBD.out]; exact bytes_far (by rw [HN.out, HM.out]; exact hfar))
    rcases (show 512 < n ∨ (¬ 512 < n ∧ 512 < m) by omega) with h | ⟨h, h'⟩
    all_goals
      clear hfar
      go_wp2_with fail
      go_ret
      exact ⟨_, rfl, by rw [HF.out]; exact NOwn.nil' (Below.refl _ _)⟩
  · have hn5 : n ≤ 512 := by omega
    have hm5 : m ≤ 512 := by omega
    have HST := Lib.hid (bytes_start (a := la) (b := lb) (by rw [HN.out, HM.out]; exact hfar))
    rw [HN.out, HM.out, HBD.out] at HST
    clear hfar
    obtain ⟨PR, hPR⟩ : ∃ z : List Ev, (if n = m then [] else [⟨4, 0, (m : Int), [], []⟩]) = z := ⟨_, rfl⟩
    have hPL : PR.length ≤ 1 := by rw [← hPR]; split <;> simp
    rw [hPR] at HST
    have ue1 := Try.underlying46
    obtain ⟨NB, hNB⟩ : ∃ z, ((n : Int) != (m : Int)) = z := ⟨_, rfl⟩
    have HNB : Hid (NB = !decide (n = m)) := Lib.hid (by
      rw [← hNB]
      by_cases c : n = m
      · subst c; simp
      · simp [c]; omega)
    go_upto_if 21 with fail
    clear hNB
    go_cut [5] (fun v wx => OEv (newB w) w wx v PR)
    case first =>
      cases NB with
      | false =>
        have hnm : n = m := by have := HNB.out; simpa using this
        rw [if_pos hnm] at hPR
        subst hPR
        clear hnm
        go_wp2_with fail
        go_meet
        exact NOwn.nil' (Below.refl _ _)
      | true =>
        have hnm : ¬ n = m := by have := HNB.out; simpa using this
        rw [if_neg hnm] at hPR
        subst hPR
        clear hnm
        have HOWN : Hid (OEv (newB w) w w (.slice none 0 0) []) := Lib.hid (NOwn.nil' (Below.refl _ _))
        have HEVL : Hid (EvL (lessJ (newB w) (.slice none 0 0)) w [.int .i64 4, .int .i64 0, .int .i64 (m : Int), .slice none 0 0, .string ⟨#[]⟩] ⟨4, 0, (m : Int), [], []⟩) := Lib.hid ⟨_, ⟨#[]⟩, rfl, rfl, by decide, BQ.nil _ _⟩
        go_wp2_with (at_builtin; refine wp_non1 evT_ok ev_rel rfl (.tmp 22) (.tmp 26) rfl _ [] rfl w HOWN.out ⟨4, 0, (m : Int), [], []⟩ HEVL.out rfl (by intro u hu; simp only [List.mem_cons, List.not_mem_nil, or_false] at hu; rcases hu with rfl | rfl | rfl | rfl | rfl <;> rfl) rfl (by decide) ?_; intro v9 w9 o9)
        go_meet
        exact o9
    case rest =>
      clear hPR HNB
      have HCUT := Lib.hid hcut
      clear hcut
      have HR1C := Lib.hid (HR1.out.later HCUT.out.below)
      go_upto_region 7 with (refine wp_zeros rfl _ _ rfl wc (Below.refl _ _) .i64 .i64 _ _ m rfl rfl rfl rfl (by omega) ?_; intro w3 o3 b3)
      have HO3 := Lib.hid o3
      have HR3 := Lib.hid (HR1C.out.later b3)
      clear o3 b3 HR1C
      go_upto_region 8 with (refine wp_copyB rfl _ _ rfl wc _ m m _ HO3.out (by rw [List.length_replicate]) a1 n c1 la HR3.out HN.out rfl rfl ?_; intro w6 v6 o6)
      have HSZ : Hid (la.take m ++ (List.replicate m (0 : UInt8)).drop n = sizedL la m) := Lib.hid (by unfold sizedL; rw [List.drop_replicate, HN.out])
      rw [HSZ.out] at o6
      obtain ⟨SS, hSS⟩ : ∃ z, sizedL la m = z := ⟨_, rfl⟩
      have HSL : Hid (SS.length = m) := Lib.hid (by rw [← hSS, sizedL_len])
      rw [hSS] at o6 HST
      have HS6 := Lib.hid (o6.back HCUT.out.below)
      have HO6 := Lib.hid (HCUT.out.later ev_rel o6.below)
      obtain ⟨G, hG⟩ : ∃ z, wc.heap.size = z := ⟨_, rfl⟩
      rw [hG] at HS6 ⊢
      have hpl : PR.length ≤ 1 := hPL
      clear o6 HCUT hSS HO3 HR3 HSZ hG
      go_wp2_with fail
      go_loopw [5, 7] (fun tv i wr => ∃ (I : Nat) (T : List Ev), i = .int .i64 I ∧ I ≤ m ∧ T.length ≤ I + 1 ∧ Hid (OEv (newB w) w wr tv T) ∧ Hid (Own w wr (.slice (some ⟨G, 0, none⟩) m m) SS) ∧ Hid (∀ f, m - I < f → T ++ piecesF SS lb f I = BD)) (fun _ i _ => m - (intOf i).toNat)
      case atStart => exact ⟨0, PR, rfl, by omega, by omega, HO6, HS6, HST⟩
      case round =>
        obtain ⟨I, T, rfl, hI, hTl, HT, HS, HF⟩ := hrel
        clear HO6 HS6 HST hpl
        obtain ⟨wo, hwo⟩ : ∃ W, W = wr := ⟨_, rfl⟩
        subst hwo
        by_cases hIm : (I : Int) < m
        · have hId : decide ((I : Int) < (m : Int)) = true := decide_eq_true hIm
          obtain ⟨N, hrun⟩ : ∃ q, runU SS lb I 64 = q := ⟨_, rfl⟩
          have hN64 : N ≤ 64 := by rw [← hrun]; exact runU_le _ _ _ _
          have hNm : I + N ≤ m := by rw [← hrun]; have := runU_end SS lb 64 I (by rw [HM.out]; omega); rw [HM.out] at this; exact this
          have HRB := Lib.hid (HR2.out.later HT.out.below)
          obtain ⟨b2, f2, hb2, -⟩ := HRB.out.at (by rw [HM.out]; omega)
          have HB2 := Lib.hid hb2
          subst hb2
          have HSR : Hid (Row wo (some ⟨G, 0, none⟩) m SS) := Lib.hid (by
            obtain ⟨a', c', hv, r⟩ := HS.out.row_n HSL.out
            simp only [Value.slice.injEq, true_and] at hv
            obtain ⟨rfl, rfl⟩ := hv
            exact r)
          have HSL1 := fun W => run_sl_end W G 0 m m I (by omega) (Nat.le_refl _) (by omega)
          have HSL2 := fun W => run_sl_end W b2 f2 m c2 I (by omega) hmc2 (by omega)
          have HUN := Lib.hid fun z => punlike_any (some ⟨G, 0 + I, none⟩) (some ⟨b2, f2 + I, none⟩) (m - I) (m - I) (c2 - I) (SS.drop I) (lb.drop I) (wo.drewN z) ((HSR.out.drop I (by rw [HSL.out]; omega)).later (below_drewN wo z)) ((HRB.out.drop I (by rw [HM.out]; omega)).later (below_drewN wo z)) (by rw [List.length_drop, HSL.out]) (by rw [List.length_drop, HM.out]) (by omega)
          have HRU := runU_at SS lb I 64 0
          rw [Nat.add_zero, hrun] at HRU
          rw [← HRU] at HUN
          obtain ⟨MI, hMI⟩ : ∃ z, m - I = z := ⟨_, rfl⟩
          obtain ⟨CI, hCI⟩ : ∃ z, c2 - I = z := ⟨_, rfl⟩
          simp only [Nat.zero_add, hMI, hCI] at HSL1 HSL2 HUN
          clear hMI hCI
          have HRUN := Lib.hid hrun
          clear hrun HRU
          go_upto_region 10 with fail
          go_cut [8] (fun k wx => k = .int .i64 (N : Nat) ∧ ∃ z, wx = wo.drewN z)
          case first =>
            go_quiet ((go_at_call 28; exact Calls.quiet_of (HUN.out _)))
            go_wp2_with fail
            go_meet
            exact ⟨by trivial, _, rfl⟩
          case rest =>
            obtain ⟨rfl, z, rfl⟩ := hcut
            have HTd := Lib.hid (HT.out.later ev_rel (below_drewN wo z))
            have HSd := Lib.hid (HS.out.later (below_drewN wo z))
            have HRd := Lib.hid (HRB.out.later (below_drewN wo z))
            have HFF : Hid (∀ f, lb.length - I < f → T ++ piecesF SS lb f I = BD) := Lib.hid (by rw [HM.out]; exact HF.out)
            clear HT HS HF hId HSL1 HSL2 HUN HSR HRB
            generalize wo.drewN z = wd at HTd HSd HRd ⊢
            by_cases hN0 : N = 0
            · have HF2 : Hid (∀ f, m - (I + 1) < f → T ++ piecesF SS lb f (I + 1) = BD) := Lib.hid (by
                have h := step_skip (by rw [HM.out]; omega) (by rw [HRUN.out, hN0]) HFF.out
                rw [HM.out] at h; exact h)
              have hNe : ((N : Int) == 0) = true := by subst hN0; rfl
              clear hN0
              go_wp2_with fail
              go_roundw
              case rel => exact ⟨I + 1, T, by go_num, by omega, by omega, HTd, HSd, HF2⟩
              case measure => simp [intOf]; omega
            · obtain ⟨E, hE⟩ : ∃ E, I + N = E := ⟨_, rfl⟩
              have HE := Lib.hid hE
              have HF2 : Hid (∀ f, m - E < f → (T ++ [pieceD lb I N]) ++ piecesF SS lb f E = BD) := Lib.hid (by
                have h := step_piece (by rw [HM.out]; omega) HRUN.out hN0 HFF.out
                rw [HM.out, hE] at h; exact h)
              have hNe : ((N : Int) == 0) = false := by simp; omega
              have hw2 : IntKind.i64.wrap ((I : Int) + (N : Int)) = (E : Int) := by rw [IntKind.wrap_i64]; omega
              have HN0 := Lib.hid hN0
              have HSL := fun W => run_slB2 (W := W) HRd.out HM.out (show I ≤ E by omega) (show E ≤ m by omega)
              have HRC := Lib.hid (HRd.out.cutB (lo := I) (hi := E) (by omega) (by rw [HM.out]; omega))
              have hEI : E - I = N := by omega
              rw [hEI] at HRC HSL
              have HPL := pieceL_is (b := lb) (I := I) (N := N) (by rw [HM.out]; omega)
              have HLN : ((lb.drop I).take N).length = N := by rw [List.length_take, List.length_drop, HM.out]; omega
              have HPA := Lib.hid (play_any I _ N _ _ wd HRC.out HLN (by omega))
              rw [HPL] at HPA
              obtain ⟨EV, hEV⟩ : ∃ e, pieceD lb I N = e := ⟨_, rfl⟩
              rw [hEV] at HPA HF2
              clear hN0 hE HFF HRUN HPL HLN hEI hEV HRC
              go_wp2_with fail
              refine HPA.out.mono ?_
              rintro e w6 ⟨cs, rfl, hev0⟩
              have HT6 := Lib.hid (HTd.out.later ev_rel hev0.below)
              have HS6 := Lib.hid (HSd.out.later hev0.below)
              have hev := hev0.back HTd.out.below
              have HEL := Lib.hid (hev.rel HT6.out (fun b h => h))
              obtain ⟨a6, c6, hds, hnm, hown⟩ := hev
              subst hds
              obtain ⟨LD, hLD⟩ : ∃ l, EV.data.length = l := ⟨_, rfl⟩
              rw [hLD] at HEL ⊢
              clear hev0 hnm hown HPA HTd HSd hLD
              go_wp2_with (at_builtin; refine wp_nonL evT_ok ev_rel rfl (.tmp 49) (.tmp 58) rfl _ T rfl w HT6.out EV HEL.out rfl (by intro u hu; simp only [List.mem_cons, List.not_mem_nil, or_false] at hu; rcases hu with rfl | rfl | rfl | rfl | rfl <;> rfl) rfl (by omega) ?_; intro v9 w9 o9 g9 e9)
              have HS9 := Lib.hid ((HS6.out.later ((Below.refl _ _).alloc (Nat.le_refl _) _)).keptG g9 (HS6.out.neN HT6.out (by decide)) (fun q e => (HT6.out.ltB e).1))
              have HO9 := Lib.hid o9
              have HTL9 : Hid ((T ++ [EV]).length ≤ E + 1 ∧ E ≤ m) := Lib.hid (by rw [List.length_append, List.length_singleton]; have := HE.out; have := HN0.out; omega)
              clear o9 g9 e9
              go_roundw
              case rel => exact ⟨E, T ++ [EV], by go_num, HTL9.out.2, HTL9.out.1, HO9, HS9, HF2⟩
              case measure => have := HE.out; have := HN0.out; simp [intOf]; omega
        · have hId : decide ((I : Int) < (m : Int)) = false := decide_eq_false hIm
          have hIe : I = m := by omega
          have HEND : Hid (T = BD) := Lib.hid (by
            have h := HF.out 1 (by omega)
            rw [piecesF_end (by rw [HM.out]; omega), List.append_nil] at h; exact h)
          clear hIe
          go_wp2_with fail
          go_ret
          exact ⟨_, rfl, by rw [← HEND.out]; exact HT.out⟩
end Go.Proofs.Ytbpddcmehjgleaa
namespace Go.Proofs.Ytbpddcmehjgleaa
open Go.RowKit Go.Proofs
set_option linter.unusedVariables false
set_option linter.unusedSimpArgs false
set_option linter.unnecessarySimpa false

set_option maxRecDepth 20000 in
set_option maxHeartbeats 6400000 in
theorem plong15_any (a : Option Addr) (n cap : Nat) (l : List Ev) (J : Nat → Prop) (w : World) (h : QE J w (.slice a n cap) l) (hn : l.length = n) (hb : n ≤ 1000) :
    Calls Try.prog 14 #[.slice a n cap] w fun e w' => e = .returned (.int .i64 (longN l)) ∧ Below w.heap.size w w' := by
  have HQ := Lib.hid h
  have HN := Lib.hid hn
  obtain ⟨hl1, hl2⟩ := h.lim
  clear h hn
  go_enter Try.func14, Try.ntmps14
  go_wp2_with fail
  go_loopw [3, 10] (fun s i wr => ∃ j : Nat, i = .int .i64 j ∧ j ≤ n ∧ s = .int .i64 (longN (l.take j) : Nat) ∧ Hid (Below w.heap.size w wr)) (fun _ i _ => n - (intOf i).toNat)
  case atStart => exact ⟨0, rfl, by omega, by simp [longN], Lib.hid (Below.refl _ _)⟩
  case round =>
    obtain ⟨j, rfl, hj, rfl, HB⟩ := hrel
    by_cases hjn : (j : Int) < (n : Int)
    · have hjd : decide ((j : Int) < (n : Int)) = true := decide_eq_true hjn
      obtain ⟨e, he⟩ : ∃ e, l[j]? = some e := ⟨l[j]'(by have := HN.out; omega), List.getElem?_eq_getElem _⟩
      have HST := Lib.hid (long_step he)
      obtain ⟨b, off, S, a2, c2, ha, k0, k1, k2, k3, k4, hS1, hS2, R2⟩ := (HQ.out.later ev_rel HB.out).e5 he
      subst ha
      have hba := below_rec wr #[.int .i64 e.kind, .int .i64 e.off, .int .i64 e.len, .slice a2 e.data.length c2, .string S] 46
      have HXE := Lib.hid (RecAt.new wr #[.int .i64 e.kind, .int .i64 e.off, .int .i64 e.len, .slice a2 e.data.length c2, .string S] 46)
      obtain ⟨wo, hwo⟩ : ∃ W, wr.alloc (.cells #[.int .i64 e.kind, .int .i64 e.off, .int .i64 e.len, .slice a2 e.data.length c2, .string S] 46) = W := ⟨_, rfl⟩
      rw [hwo] at hba HXE
      have HBO := Lib.hid (HB.out.trans (hba.mono HB.out.size))
      have HPE := Lib.hid (eput_any e.off e.len a2 e.data.length c2 e.data S wo e.kind (R2.later hba) rfl hS2)
      rw [hS1] at HPE
      change Hid (Calls _ _ _ wo fun e6 w6 => ∃ v, e6 = .returned (.tuple #[v, .int .i64 (putEv e).2]) ∧ Own wo w6 v (putEv e).1) at HPE
      obtain ⟨K1, hK1⟩ : ∃ z, e.kind = z := ⟨_, rfl⟩
      obtain ⟨K2, hK2⟩ : ∃ z, e.off = z := ⟨_, rfl⟩
      obtain ⟨K3, hK3⟩ : ∃ z, e.len = z := ⟨_, rfl⟩
      obtain ⟨LD, hLD⟩ : ∃ z, e.data.length = z := ⟨_, rfl⟩
      simp only [hK1, hK2, hK3, hLD] at k0 k1 k2 k3 HXE HPE hwo
      obtain ⟨PL, hPL⟩ : ∃ z, (putEv e).1.length = z := ⟨_, rfl⟩
      have hP67 : PL ≤ 67 := by rw [← hPL]; exact putEv_len e
      rw [hPL] at HST
      have HSUM : Hid (longN (l.take j) ≤ 67000) := Lib.hid (by have := longN_le (l.take j); rw [List.length_take] at this; omega)
      obtain ⟨SJ, hSJ⟩ : ∃ z, longN (l.take j) = z := ⟨_, rfl⟩
      rw [hSJ] at HST HSUM ⊢
      have hSJ2 := HSUM.out
      have HPL := Lib.hid hPL
      clear hSJ hPL hLD he hS1 hS2 R2 hK1 hK2 hK3 hba
      go_upto_region 5 with fail
      try rw [hwo]
      obtain ⟨PO, hPO⟩ : ∃ z, wr.heap.size = z := ⟨_, rfl⟩
      rw [hPO] at HXE ⊢
      clear k0 k1 k2 k3 k4 hwo hPO
      obtain ⟨y0, y1, y2, y3, y4⟩ := HXE.out.c5
      go_wp2_with fail
      refine HPE.out.mono ?_
      rintro e6 w6 ⟨v6, rfl, o6⟩
      obtain ⟨a6, c6, rfl, -⟩ := o6.row_n HPL.out
      have HB6 := Lib.hid (HBO.out.trans (o6.below.mono HBO.out.size))
      clear o6 y0 y1 y2 y3 y4
      have hw1 : IntKind.i64.wrap ((SJ : Int) + (PL : Int)) = ((SJ + PL : Nat) : Int) := by rw [IntKind.wrap_i64]; omega
      go_wp2_with fail
      go_roundw
      case rel => exact ⟨j + 1, by go_num, by omega, by rw [HST.out]; go_num, HB6⟩
      case measure => simp [intOf]; omega
    · have hjd : decide ((j : Int) < (n : Int)) = false := decide_eq_false hjn
      have HE : Hid (longN (l.take j) = longN l) := Lib.hid (by rw [List.take_of_length_le (by rw [HN.out]; omega)])
      go_wp2_with fail
      go_ret
      exact ⟨by rw [HE.out]; rfl, HB.out⟩

set_option maxRecDepth 100000 in
set_option maxHeartbeats 12800000 in
theorem pway15_any (d1 v1 d2 v2 : Value) (s t : Sx) (J1 J2 : Nat → Prop) (w : World) (h1 : StA J1 w d1 v1 s) (h2 : StA J2 w d2 v2 t) (hs : MayS s) (ht : MayS t) :
    Calls Try.prog 18 #[.agg #[d1, v1], .agg #[d2, v2]] w fun e w' => ∃ v, e = .returned v ∧ OEv (newB w) w w' v (wayS s t) := by
  obtain ⟨WD, hWD⟩ : ∃ B, wayS s t = B := ⟨_, rfl⟩
  rw [hWD]
  have HWN : Hid (¬ (StOk s ∧ StOk t) → WD = []) := Lib.hid fun h => by rw [← hWD]; unfold wayS; rw [if_neg h]
  have HWY : Hid (StOk s ∧ StOk t → WD = wayD s t) := Lib.hid fun h => by rw [← hWD]; unfold wayS; rw [if_pos h]
  clear hWD
  obtain ⟨a1, c1, a2, c2, rfl, rfl, rd, rs⟩ := h1.open
  obtain ⟨a3, c3, a4, c4, rfl, rfl, td, ts⟩ := h2.open
  obtain ⟨X2, X3, B3⟩ := two_recsS w #[.slice a1 s.data.length c1, .slice a2 s.snaps.length c2] #[.slice a3 t.data.length c3, .slice a4 t.snaps.length c4] 32 32
  obtain ⟨w1, hw1⟩ : ∃ W, ((w.alloc (.cells #[.slice a1 s.data.length c1, .slice a2 s.snaps.length c2] 32)).alloc (.cells #[.slice a3 t.data.length c3, .slice a4 t.snaps.length c4] 32)) = W := ⟨_, rfl⟩
  rw [hw1] at X2 X3 B3
  have HRT1 := Lib.hid (pright14_any _ _ s J1 w1 (h1.later B3) hs)
  have HRT2 := Lib.hid fun wx (hb : Below w1.heap.size w1 wx) => pright14_any _ _ t J2 wx ((h2.later B3).later hb) ht
  obtain ⟨nd, hnd⟩ : ∃ z, s.data.length = z := ⟨_, rfl⟩
  obtain ⟨ns, hns⟩ : ∃ z, s.snaps.length = z := ⟨_, rfl⟩
  obtain ⟨md, hmd⟩ : ∃ z, t.data.length = z := ⟨_, rfl⟩
  obtain ⟨ms, hms⟩ : ∃ z, t.snaps.length = z := ⟨_, rfl⟩
  rw [hnd] at X2 hw1 HRT1 ⊢
  rw [hns] at X2 hw1 rs HRT1 ⊢
  rw [hmd] at X3 hw1 HRT2 ⊢
  rw [hms] at X3 hw1 ts HRT2 ⊢
  have HX2 := Lib.hid X2
  have HX3 := Lib.hid X3
  have HB3 := Lib.hid B3
  have HRS := Lib.hid (rs.later od_rel B3)
  have HTS := Lib.hid (ts.later od_rel B3)
  have HRD := Lib.hid (rd.later B3)
  have HTD := Lib.hid (td.later B3)
  have HND := Lib.hid hnd
  have HMD := Lib.hid hmd
  have HNS := Lib.hid hns
  have HMS := Lib.hid hms
  obtain ⟨hl1, hl2⟩ := rs.lim
  obtain ⟨hl3, hl4⟩ := ts.lim
  clear X2 X3 B3 rd rs td ts h1 h2 hnd hns hmd hms hs ht
  go_enter Try.func18, Try.ntmps18
  go_upto_region 1 with fail
  try rw [hw1]
  clear hw1
  obtain ⟨X, hX⟩ : ∃ X, w.heap.size = X := ⟨_, rfl⟩
  rw [hX] at HX2 HX3 ⊢
  have HXS := Lib.hid hX
  clear hX
  obtain ⟨x0, x1⟩ := HX2.out.c2
  obtain ⟨y0, y1⟩ := HX3.out.c2
  go_wp2_with fail
  refine HRT1.out.mono ?_
  rintro e w2 ⟨B1, rfl, hB1, b2⟩
  have HB2 := Lib.hid b2
  have HO1 := Lib.hid hB1
  clear b2 hB1 x0 x1 y0 y1 HRT1
  obtain ⟨x0, x1⟩ := (HX2.out.later HB2.out).c2
  obtain ⟨y0, y1⟩ := (HX3.out.later HB2.out).c2
  cases B1 with
  | false =>
    have HF : Hid (WD = []) := Lib.hid (HWN.out fun h => by have := HO1.out.2 h.1; cases this)
    go_wp2_with fail
    go_ret
    exact ⟨_, rfl, by rw [HF.out]; exact NOwn.nil' (HB3.out.trans (HB2.out.mono HB3.out.size))⟩
  | true =>
    go_wp2_with fail
    refine (HRT2.out w2 HB2.out).mono ?_
    rintro e w3 ⟨B2, rfl, hB2, b3⟩
    have HB4 := Lib.hid (HB2.out.trans (b3.mono HB2.out.size))
    have HO2 := Lib.hid hB2
    clear b3 hB2 x0 x1 y0 y1 HRT2 HB2
    obtain ⟨x0, x1⟩ := (HX2.out.later HB4.out).c2
    obtain ⟨y0, y1⟩ := (HX3.out.later HB4.out).c2
    cases B2 with
    | false =>
      have HF : Hid (WD = []) := Lib.hid (HWN.out fun h => by have := HO2.out.2 h.2; cases this)
      go_wp2_with fail
      go_ret
      exact ⟨_, rfl, by rw [HF.out]; exact NOwn.nil' (HB3.out.trans (HB4.out.mono HB3.out.size))⟩
    | true =>
      have HS : Hid (StOk s) := Lib.hid (HO1.out.1 (by trivial))
      have HT : Hid (StOk t) := Lib.hid (HO2.out.1 (by trivial))
      have hns8 : ns ≤ 8 := by rw [← HNS.out]; exact HS.out.many
      have hms8 : ms ≤ 8 := by rw [← HMS.out]; exact HT.out.many
      have HBG := Lib.hid (pbegin_any a2 a4 ns ms c2 c4 s.snaps t.snaps J1 J2 w3 (HRS.out.later od_rel HB4.out) (HTS.out.later od_rel HB4.out) HNS.out HMS.out (by omega))
      obtain ⟨K, hK⟩ : ∃ K, preK s.snaps t.snaps = K := ⟨_, rfl⟩
      rw [hK] at HBG
      have HWD : Hid (WD = (s.snaps.drop K).reverse.map unsE ++ (snapsD s.data (t.snaps.drop K) ++ bytesD (lastD s.data (t.snaps.drop K)) t.data)) := Lib.hid (by rw [HWY.out ⟨HS.out, HT.out⟩, ← hK]; rfl)
      have hKn : K ≤ ns ∧ K ≤ ms := by rw [← hK, ← HNS.out, ← HMS.out]; exact preK_le _ _
      clear hK HWN HWY HO1 HO2
      go_wp2_with fail
      refine HBG.out.mono ?_
      rintro e wa ⟨rfl, ba⟩
      have HBB := Lib.hid (HB4.out.trans (ba.mono HB4.out.size))
      clear HB4 x0 x1 y0 y1 HBG ba
      obtain ⟨hK1, hK2⟩ := hKn
      obtain ⟨x0, x1⟩ := (HX2.out.later HBB.out).c2
      obtain ⟨y0, y1⟩ := (HX3.out.later HBB.out).c2
      have hwz : IntKind.i64.wrap ((ns : Int) - 1) = (ns : Int) - 1 := by rw [IntKind.wrap_i64]; omega
      have HO0 : Hid (OEv (newB w) wa wa (.slice none 0 0) ((s.snaps.drop ns).reverse.map unsE)) := Lib.hid (by
        rw [List.drop_eq_nil_of_le (by rw [HNS.out]; exact Nat.le_refl _)]
        exact NOwn.nil' (Below.refl _ _))
      have HWA := Lib.hid (HB3.out.trans (HBB.out.mono HB3.out.size))
      go_wp2_with fail
      go_loopw [5, 7] (fun ov i wr => ∃ (I : Int) (ii : Nat), i = .int .i64 I ∧ I = (ii : Int) - 1 ∧ K ≤ ii ∧ ii ≤ ns ∧ Hid (OEv (newB w) wa wr ov ((s.snaps.drop ii).reverse.map unsE))) (fun _ i _ => (intOf i + 1).toNat)
      case atStart => exact ⟨_, ns, rfl, rfl, by omega, by omega, HO0⟩
      case round =>
        obtain ⟨I, ii, rfl, hI, hi1, hi2, HO⟩ := hrel
        clear HO0
        obtain ⟨wo, hwo⟩ : ∃ W, W = wr := ⟨_, rfl⟩
        subst hwo
        have HBW := Lib.hid (HBB.out.trans (HO.out.below.mono HBB.out.size))
        obtain ⟨x0, x1⟩ := (HX2.out.later HBW.out).c2
        obtain ⟨y0, y1⟩ := (HX3.out.later HBW.out).c2
        by_cases hc : I ≥ (K : Int)
        · have hcd : decide (I ≥ (K : Int)) = true := decide_eq_true hc
          obtain ⟨q, rfl⟩ : ∃ q : Nat, I = q := ⟨I.toNat, by omega⟩
          obtain rfl : ii = q + 1 := by omega
          obtain ⟨o, ho⟩ : ∃ e, s.snaps[q]? = some e := ⟨s.snaps[q]'(by have := HNS.out; omega), List.getElem?_eq_getElem _⟩
          have HST := Lib.hid (uns_step ho)
          obtain ⟨b1, f1, N1, e1, k1, rfl, p0, p1, hN1, hN2, R1⟩ := (HRS.out.later od_rel HBW.out).o2 ho
          obtain ⟨T, hT⟩ : ∃ T, (s.snaps.drop (q + 1)).reverse.map unsE = T := ⟨_, rfl⟩
          have HTL : Hid (T.length ≤ 8) := Lib.hid (by rw [← hT, List.length_map, List.length_reverse, List.length_drop, HNS.out]; omega)
          rw [hT] at HO HST
          have HEL : Hid (EvL (lessJ (newB w) u5) wo [.int .i64 6, .int .i64 0, .int .i64 0, .slice none 0 0, .string N1] (unsE o)) := Lib.hid ⟨_, N1, rfl, hN1, hN2, BQ.nil _ _⟩
          have hqn : (q : Int) < (ns : Int) := by omega
          have hw1 : IntKind.i64.wrap ((q : Int) - 1) = (q : Int) - 1 := by rw [IntKind.wrap_i64]; omega
          have hqK : K ≤ q := by omega
          have hqN : q ≤ ns := by omega
          clear hT ho hN1 hN2 R1 p1 hI
          go_wp2_with (at_builtin; refine wp_nonL evT_ok ev_rel rfl (.tmp 33) (.tmp 41) rfl _ T rfl wa HO.out (unsE o) HEL.out rfl (by intro u hu; simp only [List.mem_cons, List.not_mem_nil, or_false] at hu; rcases hu with rfl | rfl | rfl | rfl | rfl <;> rfl) rfl (by have := HTL.out; omega) ?_; intro v9 w9 o9 g9 e9)
          go_roundw
          case rel => exact ⟨_, q, rfl, rfl, hqK, hqN, Lib.hid (by rw [HST.out]; exact o9)⟩
          case measure => simp [intOf]
        · have hcd : decide (I ≥ (K : Int)) = false := decide_eq_false hc
          have hiK : ii = K := by omega
          have HO1 : Hid (OEv (newB w) wa wo u5 ((s.snaps.drop K).reverse.map unsE)) := Lib.hid (by rw [← hiK]; exact HO.out)
          clear hiK hI hi1 hi2 HO
          obtain ⟨UL, hUL⟩ : ∃ l, (s.snaps.drop K).reverse.map unsE = l := ⟨_, rfl⟩
          have HUL : Hid (UL.length ≤ 8) := Lib.hid (by rw [← hUL, List.length_map, List.length_reverse, List.length_drop, HNS.out]; omega)
          have HTK := Lib.hid ((HTS.out.later od_rel HBB.out).drop (k := K) hK2)
          obtain ⟨TL, hTL⟩ : ∃ l, t.snaps.drop K = l := ⟨_, rfl⟩
          have HSK := fun W => run_slG_end odT_ok (W := W) (a := a4) (n := ms) (cap := c4) (lo := K) (S := 30) rfl hl3 hK2
          simp only [show (rawT 2 38 30).sz = 2 from rfl] at HSK
          have HTLen : Hid (TL.length = ms - K) := Lib.hid (by rw [← hTL, List.length_drop, HMS.out])
          have HTSz : Hid (∀ o ∈ TL, o.data.length ≤ 512) := Lib.hid (fun o ho => HT.out.sizes o (by rw [← hTL] at ho; exact List.mem_of_mem_drop ho))
          rw [hTL] at HTK HWD
          have hmk8 : ms - K ≤ 8 := by omega
          obtain ⟨MK, hMK⟩ : ∃ z, ms - K = z := ⟨_, rfl⟩
          obtain ⟨AK, hAK⟩ : ∃ z, cutA 2 a4 K c4 = z := ⟨_, rfl⟩
          obtain ⟨CK, hCK⟩ : ∃ z, c4 - K = z := ⟨_, rfl⟩
          rw [hMK] at HTLen hmk8
          simp only [hMK, hAK, hCK] at HSK HTK
          obtain ⟨hk3, hk4⟩ := HTK.out.lim
          obtain ⟨WS, hWS⟩ : ∃ l, UL ++ snapsD s.data TL = l := ⟨_, rfl⟩
          obtain ⟨LS, hLS⟩ : ∃ l, lastD s.data TL = l := ⟨_, rfl⟩
          have HWR : Hid (WD = WS ++ bytesD LS t.data) := Lib.hid (by rw [HWD.out, hUL, hLS, ← hWS, List.append_assoc])
          rw [hUL] at HO1
          have HWS := Lib.hid hWS
          have HLS := Lib.hid hLS
          have HNO := Lib.hid (HRD.out.later HBB.out)
          clear hUL hWS hLS HWD hTL hMK hAK hCK
          go_wp2_with fail
          go_loopw [5, 8, 50] (fun ov nv i wr => ∃ (I : Nat) (T : List Ev) (now : List UInt8) (a8 : Option Addr) (n8 c8 : Nat), i = .int .i64 I ∧ nv = .slice a8 n8 c8 ∧ I ≤ MK ∧ T.length ≤ 8 + 600 * I ∧ Hid (now.length = n8) ∧ Hid (OEv (newB w) wa wr ov T) ∧ Hid (Row wa a8 c8 now) ∧ Hid (T ++ snapsD now (TL.drop I) = WS) ∧ Hid (lastD now (TL.drop I) = LS)) (fun _ _ i _ => MK - (intOf i).toNat)
          case atStart => exact ⟨0, UL, s.data, a1, nd, c1, rfl, rfl, by omega, by have := HUL.out; omega, HND, HO1, HNO, HWS, HLS⟩
          case round =>
            obtain ⟨I, T, now, a8, n8, c8, rfl, rfl, hI2, hTL, HN8, HO, HR8, HW8, HL8⟩ := hrel
            clear HO1 HNO HWS HLS HSK
            obtain ⟨wx, hwx⟩ : ∃ W, W = wr := ⟨_, rfl⟩
            subst hwx
            have HBV := Lib.hid (HBB.out.trans (HO.out.below.mono HBB.out.size))
            clear x0 x1 y0 y1
            by_cases hIm : (I : Int) < (MK : Int)
            · have hId : decide ((I : Int) < (MK : Int)) = true := decide_eq_true hIm
              obtain ⟨o, ho⟩ : ∃ e, TL[I]? = some e := ⟨TL[I]'(by have := HTLen.out; omega), List.getElem?_eq_getElem _⟩
              obtain ⟨b4, f4, N1, e4, k4, rfl, q0, q1, hN1, hN2, R4⟩ := HTK.out.o2 ho
              have p0 := (Below.cell HO.out.below (World.block_lt_of_cell? _ _ q0)).trans q0
              have p1 := (Below.cell HO.out.below (World.block_lt_of_cell? _ _ q1)).trans q1
              clear q0 q1
              have HW9 := Lib.hid (snaps_step ho HW8.out)
              have HL9 := Lib.hid (last_step ho HL8.out)
              have hba := below_rec wx #[.string N1, .slice e4 o.data.length k4] 38
              have HXE := Lib.hid (RecAt.new wx #[.string N1, .slice e4 o.data.length k4] 38)
              obtain ⟨wo, hwo⟩ : ∃ W, wx.alloc (.cells #[.string N1, .slice e4 o.data.length k4] 38) = W := ⟨_, rfl⟩
              rw [hwo] at hba HXE
              obtain ⟨L4, hL4⟩ : ∃ z, o.data.length = z := ⟨_, rfl⟩
              have HL4 := Lib.hid hL4
              rw [hL4] at p1 HXE hwo
              have hbw := HO.out.below.trans (hba.mono HO.out.below.size)
              have HPB := Lib.hid (pbytes15_any a8 e4 n8 L4 c8 k4 now o.data wo (HR8.out.later hbw) (R4.later hbw) HN8.out hL4)
              have HRO := Lib.hid R4
              have HBO := Lib.hid hba
              have HPX : Hid (u5.ownBlock ≠ some wx.heap.size) := Lib.hid fun e => by have := (HO.out.ltB e).2; omega
              have HOZ := Lib.hid (Nat.le_trans HWA.out.size HO.out.below.size)
              have HSN := Lib.hid (And.intro hN1 hN2)
              obtain ⟨BB, hBB⟩ : ∃ l, bytesD now o.data = l := ⟨_, rfl⟩
              obtain ⟨BL, hBL⟩ : ∃ l, BB.length = l := ⟨_, rfl⟩
              have hBL2 : BL ≤ 514 := by rw [← hBL, ← hBB]; exact bytesD_len _ _
              rw [hBB] at HPB HW9
              clear hBB hL4 ho hba hbw R4 hN1 hN2 HR8 HW8 HL8
              go_upto_region 13 with fail
              try rw [hwo]
              obtain ⟨PO, hPO⟩ : ∃ z, wx.heap.size = z := ⟨_, rfl⟩
              rw [hPO] at HXE HPX HOZ ⊢
              have HPO := Lib.hid hPO
              clear p0 p1 hwo hPO
              obtain ⟨y0, y1⟩ := HXE.out.c2
              go_wp2_with fail
              refine HPB.out.mono ?_
              rintro e w8 ⟨v8, rfl, o8⟩
              obtain ⟨a9, c9, hv9⟩ := o8.val evT_ok hBL
              subst hv9
              have HQ := Lib.hid (o8.row evT_ok ev_rel (fun b h => h)).q
              have HB8 := Lib.hid (HBO.out.trans (o8.below.mono HBO.out.size))
              have HO8 := Lib.hid (HO.out.later ev_rel HB8.out)
              have HQ2 := Lib.hid (HQ.out.weak ev_rel (J' := lessJ (newB w) u5) fun b _ hb => ⟨Nat.le_trans HOZ.out (Nat.le_trans (by have := HBO.out.size; have := HPO.out; omega) hb), fun e => by
                have h3 := (HO.out.ltB e.symm).2
                have h4 : wo.heap.size ≤ b := hb
                have := HBO.out.size
                omega⟩)
              have HX8 := Lib.hid (HXE.out.later o8.below)
              have hBT : T.length + BB.length ≤ 1000000 := by rw [hBL]; omega
              clear o8 HQ HPB y0 y1
              go_upto_region 14 with (at_builtin; refine wp_qons evT_ok ev_rel rfl (.tmp 54) (.tmp 58) rfl _ T rfl wa HO8.out BB a9 BL c9 rfl HQ2.out hBT ?_; intro v9 w9 o9 g9)
              have HX9 := Lib.hid (HX8.out.grown g9 (fun e => HPX.out e.symm))
              have HO9 := Lib.hid o9
              have hTBL : (T ++ BB).length ≤ 8 + 600 * I + 514 := by rw [List.length_append, hBL]; omega
              obtain ⟨TB, hTB⟩ : ∃ l, T ++ BB = l := ⟨_, rfl⟩
              rw [hTB] at hTBL HO9 HW9
              have HEL : Hid (EvL (lessJ (newB w) v9) w9 [.int .i64 5, .int .i64 0, .int .i64 0, .slice none 0 0, .string N1] (snE o)) := Lib.hid ⟨_, N1, rfl, HSN.out.1, HSN.out.2, BQ.nil _ _⟩
              obtain ⟨y0, y1⟩ := HX9.out.c2
              have HTL9 : Hid ((TB ++ [snE o]).length ≤ 8 + 600 * (I + 1)) := Lib.hid (by rw [List.length_append, List.length_singleton]; omega)
              have hI9 : I + 1 ≤ MK := by omega
              clear o9 g9 hTB hBL hBT hTL
              go_upto_region 15 with (at_builtin; refine wp_nonL evT_ok ev_rel rfl (.tmp 60) (.tmp 64) rfl _ TB rfl wa HO9.out (snE o) HEL.out rfl (by intro u hu; simp only [List.mem_cons, List.not_mem_nil, or_false] at hu; rcases hu with rfl | rfl | rfl | rfl | rfl <;> rfl) rfl (by omega) ?_; intro v10 w10 o10 g10 e10)
              have HX10 := Lib.hid ((HX9.out.later ((Below.refl _ _).alloc (Nat.le_refl _) _)).grown g10 (fun e => HO9.out.neT HX9.out (by decide) e.symm))
              have HO10 := Lib.hid o10
              clear o10 g10 e10 y0 y1
              obtain ⟨y0, y1⟩ := HX10.out.c2
              go_wp2_with fail
              go_roundw
              case rel => exact ⟨I + 1, TB ++ [snE o], o.data, e4, L4, k4, by go_num, rfl, hI9, HTL9.out, HL4, HO10, HRO, HW9, HL9⟩
              case measure => simp [intOf]; omega
            · have hId : decide ((I : Int) < (MK : Int)) = false := decide_eq_false hIm
              have hIe : I = MK := by omega
              have HD0 : Hid (TL.drop I = []) := Lib.hid (List.drop_eq_nil_of_le (by rw [HTLen.out]; omega))
              have HWE : Hid (T = WS) := Lib.hid (by have := HW8.out; rw [HD0.out] at this; simpa [snapsD] using this)
              have HLE : Hid (now = LS) := Lib.hid (by have := HL8.out; rw [HD0.out] at this; simpa [lastD] using this)
              obtain ⟨y0, y1⟩ := (HX3.out.later HBV.out).c2
              have hTL2 : T.length ≤ 10000 := by omega
              clear hIe HD0 HW8 HL8
              go_wp2_with fail
              refine (pbytes15_any a8 a3 n8 md c8 c3 now t.data wx (HR8.out.later HO.out.below) (HTD.out.later HBV.out) HN8.out HMD.out).mono ?_
              rintro e w8 ⟨v8, rfl, o8⟩
              obtain ⟨BB, hBB⟩ : ∃ l, bytesD now t.data = l := ⟨_, rfl⟩
              obtain ⟨BL, hBL⟩ : ∃ l, BB.length = l := ⟨_, rfl⟩
              have hBL2 : BL ≤ 514 := by rw [← hBL, ← hBB]; exact bytesD_len _ _
              rw [hBB] at o8
              obtain ⟨a9, c9, hv9⟩ := o8.val evT_ok hBL
              subst hv9
              have HQ := Lib.hid (o8.row evT_ok ev_rel (fun b h => h)).q
              have HO8 := Lib.hid (HO.out.later ev_rel o8.below)
              have HWR2 : Hid (WD = T ++ BB) := Lib.hid (by rw [HWR.out, HWE.out, ← HLE.out, hBB])
              have HOS := Lib.hid HO.out.below.size
              have HOB : Hid (∀ b, wx.heap.size ≤ b → some b ≠ u5.ownBlock) := Lib.hid fun b h e => by have := (HO.out.ltB e.symm).2; omega
              have HQ2 := Lib.hid (HQ.out.weak ev_rel (J' := lessJ (newB w) u5) fun b _ hb => ⟨Nat.le_trans HWA.out.size (Nat.le_trans HOS.out hb), HOB.out b hb⟩)
              have hBT : T.length + BB.length ≤ 1000000 := by rw [hBL]; omega
              clear o8 hBB hBL HQ HOB HOS
              go_wp2_with (at_builtin; refine wp_qons evT_ok ev_rel rfl (.tmp 69) (.tmp 73) rfl _ T rfl wa HO8.out BB a9 BL c9 rfl HQ2.out hBT ?_; intro v9 w9 o9 g9)
              go_ret
              exact ⟨_, rfl, by rw [HWR2.out]; exact o9.back HWA.out⟩
end Go.Proofs.Ytbpddcmehjgleaa
