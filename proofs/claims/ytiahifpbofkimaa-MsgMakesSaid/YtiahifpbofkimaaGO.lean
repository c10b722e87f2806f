/- Messages: what bytes are: the program's guess; Get. | Messages: what bytes are: package msg's Get. -/
import Derived.Test.YtiahifpbofkimaaGN
import Derived.Test.YtiahifpbofkimaaMsK
import Derived.Test.YtiahifpbofkimaaGD
namespace Go.Proofs.Ytiahifpbofkimaa
open Go.RowKit Go.Proofs
set_option linter.unusedVariables false
set_option linter.unusedSimpArgs false
set_option linter.unnecessarySimpa false

/-! ### the five numbers -/
def L5 (d : Ms) : List Int := [d.nonce, d.pos, d.fin, d.stage, d.num]
theorem preN_L5 (d : Ms) : preN (L5 d) 5 = numsM d := by unfold preN L5 numsM; simp [List.append_assoc]
theorem L5_nat {d : Ms} (hd : MsOk d) {j : Nat} {x : Int} (h : (L5 d)[j]? = some x) : 0 ≤ x ∧ x < 9223372036854775808 := by
  have hm := List.mem_of_getElem? h
  have hN := hd.1
  unfold NumsM at hN
  unfold L5 at hm
  simp only [List.mem_cons, List.not_mem_nil, or_false] at hm
  rcases hm with rfl | rfl | rfl | rfl | rfl <;> omega
theorem body_split {d : Ms} {l : List UInt8} (hl : bodyMs d = l) : l = [UInt8.ofNat d.kind.toNat] ++ (preN (L5 d) 5 ++ tailM d) := by
  rw [← hl, preN_L5]; unfold bodyMs frontM; simp
theorem preN_step {d : Ms} {l : List UInt8} (hd : MsOk d) (hl : bodyMs d = l) {j a : Nat} {o : Int} {a' : Nat} {z : Bool} (hj : j < 5) (ha : a = 1 + (preN (L5 d) j).length) (hg : getVA l ((a : Nat) : Int) = (o, ((a' : Nat) : Int), z)) :
    (L5 d)[j]? = some o ∧ a' = 1 + (preN (L5 d) (j + 1)).length ∧ z = true := by
  have hjl : (L5 d)[j]? = some ((L5 d)[j]'(by simp [L5]; omega)) := List.getElem?_eq_getElem _
  obtain ⟨x, hx⟩ : ∃ x, (L5 d)[j]'(by simp [L5]; omega) = x := ⟨_, rfl⟩
  rw [hx] at hjl
  clear hx
  have hxb := L5_nat hd hjl
  have e2 : preN (L5 d) 5 = preN (L5 d) (j + 1) ++ ((L5 d).drop (j + 1)).flatMap fun x => varL x.toNat := by
    unfold preN
    rw [← List.flatMap_append]
    congr 1
    rw [List.take_append_drop]; rfl
  have e3 : l.drop a = varL x.toNat ++ ((((L5 d).drop (j + 1)).flatMap fun x => varL x.toNat) ++ tailM d) := by
    rw [ha, body_split hl, e2, ← preN_succ hjl, ← List.drop_drop]
    rw [show ([UInt8.ofNat d.kind.toNat] ++ ((preN (L5 d) j ++ varL x.toNat ++ ((L5 d).drop (j + 1)).flatMap fun x => varL x.toNat) ++ tailM d)).drop 1 = ((preN (L5 d) j ++ varL x.toNat ++ ((L5 d).drop (j + 1)).flatMap fun x => varL x.toNat) ++ tailM d) from rfl]
    simp only [List.append_assoc]
    rw [List.drop_left]
  have hal : a ≤ l.length := by
    rw [ha, body_split hl, e2, ← preN_succ hjl]; simp only [List.length_append, List.length_cons, List.length_nil]; omega
  have h := getVA_put hg hal e3 (by omega)
  refine ⟨by rw [hjl, h.1]; congr 1; omega, ?_, h.2.2⟩
  rw [← preN_succ hjl, List.length_append]
  omega
def Read5 (l : List UInt8) (j a : Nat) (xs : List Int) : Prop := (∀ x ∈ xs, 0 ≤ x ∧ x < 9223372036854775808) ∧ xs.length = 5 ∧ a ≤ l.length ∧ ∀ d, MsOk d → bodyMs d = l → a = 1 + (preN (L5 d) j).length ∧ ∀ i, i < j → xs[i]? = (L5 d)[i]?
theorem Read5.step {l : List UInt8} {j a a' : Nat} {xs : List Int} {o : Int} {z : Bool} (h : Read5 l j a xs) (hj : j < 5) (hg : getVA l ((a : Nat) : Int) = (o, ((a' : Nat) : Int), z)) : Read5 l (j + 1) a' (xs.set j o) := by
  refine ⟨fun x hx => ?_, by rw [List.length_set]; exact h.2.1, ?_, fun d hd hl => ?_⟩
  · rcases List.mem_or_eq_of_mem_set hx with hx | rfl
    · exact h.1 x hx
    · exact getVA_nat hg
  · obtain ⟨q, hq, hq2⟩ := getVA_place hg (Int.natCast_nonneg _)
    omega
  · obtain ⟨h1, h2⟩ := h.2.2.2 d hd hl
    obtain ⟨h3, h4, _⟩ := preN_step hd hl hj h1 hg
    refine ⟨h4, fun i hi => ?_⟩
    by_cases e : i = j
    · subst e; rw [h3, List.getElem?_set_self (by rw [h.2.1]; exact hj)]
    · rw [List.getElem?_set_ne (by omega)]; exact h2 i (by omega)
theorem read5_zero {l : List UInt8} (h : 1 ≤ l.length) : Read5 l 0 1 [0, 0, 0, 0, 0] := ⟨fun x hx => by simp at hx; omega, rfl, h, fun d _ _ => ⟨by rw [preN_zero]; rfl, fun i hi => by omega⟩⟩
theorem kind_is {d : Ms} {l t : List UInt8} {u : UInt8} (hd : MsOk d) (hl : bodyMs d = l) (h : l = u :: t) : d.kind = (u.toNat : Nat) := by
  have e := body_split hl
  rw [h] at e
  simp only [List.cons_append, List.nil_append, List.cons.injEq] at e
  have := hd.1.1
  rw [e.1, UInt8.toNat_ofNat']
  omega
/-- What is known when all five are read: they, and what lies behind. -/
theorem read5_all {l : List UInt8} {a : Nat} {x0 x1 x2 x3 x4 : Int} (h : Read5 l 5 a [x0, x1, x2, x3, x4]) : ∀ d, MsOk d → bodyMs d = l → x0 = d.nonce ∧ x1 = d.pos ∧ x2 = d.fin ∧ x3 = d.stage ∧ x4 = d.num ∧ l.drop a = tailM d := fun d hd hl => by
  obtain ⟨h1, h2⟩ := h.2.2.2 d hd hl
  have e0 := h2 0 (by omega); have e1 := h2 1 (by omega); have e2 := h2 2 (by omega); have e3 := h2 3 (by omega); have e4 := h2 4 (by omega)
  simp [L5] at e0 e1 e2 e3 e4
  refine ⟨e0, e1, e2, e3, e4, ?_⟩
  rw [h1, body_split hl, ← List.drop_drop, show ([UInt8.ofNat d.kind.toNat] ++ (preN (L5 d) 5 ++ tailM d)).drop 1 = preN (L5 d) 5 ++ tailM d from rfl, List.drop_left]
theorem run_ixp5 (W : World) (a b c d e : Option Addr) (k : Nat) (v : Option Addr) (h : [a, b, c, d, e][k]? = some v) : (Instr.index 91 (.agg #[.pointer a, .pointer b, .pointer c, .pointer d, .pointer e]) (.int .i64 (k : Nat))).run Try.prog W = .ok (.pointer v) W := by
  have u3 := Try.underlying90
  have a3 := Try.isAgg90
  have z3 := Try.sizeOf90
  match k, h with
  | 0, h => simp at h; subst h; simp [Instr.index, asIntOf, run_underlying Try.underlying91, go_sem, a3, z3]
  | 1, h => simp at h; subst h; simp [Instr.index, asIntOf, run_underlying Try.underlying91, go_sem, a3, z3]
  | 2, h => simp at h; subst h; simp [Instr.index, asIntOf, run_underlying Try.underlying91, go_sem, a3, z3]
  | 3, h => simp at h; subst h; simp [Instr.index, asIntOf, run_underlying Try.underlying91, go_sem, a3, z3]
  | 4, h => simp at h; subst h; simp [Instr.index, asIntOf, run_underlying Try.underlying91, go_sem, a3, z3]
  | k + 5, h => simp at h
abbrev zeroMs : Array Value := #[.int .i64 0, .int .i64 0, .int .i64 0, .int .i64 0, .int .i64 0, .int .i64 0, .slice none 0 0, .slice none 0 0, .slice none 0 0, .slice none 0 0]
/-- The numbers in the message's block. -/
def LayMs (w : World) (P : Nat) (k : Int) (xs : List Int) : Prop := ∃ x0 x1 x2 x3 x4, xs = [x0, x1, x2, x3, x4] ∧ RecAt w P #[.int .i64 k, .int .i64 x0, .int .i64 x1, .int .i64 x2, .int .i64 x3, .int .i64 x4, .slice none 0 0, .slice none 0 0, .slice none 0 0, .slice none 0 0] 27
theorem LayMs.at {w : World} {P : Nat} {k : Int} {xs : List Int} (h : LayMs w P k xs) {j : Nat} (hj : j < 5) : ∃ K v, [(some ⟨P, 1, none⟩ : Option Addr), some ⟨P, 2, none⟩, some ⟨P, 3, none⟩, some ⟨P, 4, none⟩, some ⟨P, 5, none⟩][j]? = some (some ⟨P, K, none⟩) ∧ w.cell? ⟨P, K, none⟩ = some (.int .i64 v) ∧ w.frozen? ⟨P, K, none⟩ = false ∧ ∀ o, LayMs (w.setCell ⟨P, K, none⟩ (.int .i64 o)) P k (xs.set j o) := by
  obtain ⟨x0, x1, x2, x3, x4, rfl, h3⟩ := h
  match j, hj with
  | 0, _ => exact ⟨1, x0, rfl, h3.cell rfl, h3.frozen 1, fun o => ⟨o, x1, x2, x3, x4, rfl, h3.set 1 (.int .i64 o)⟩⟩
  | 1, _ => exact ⟨2, x1, rfl, h3.cell rfl, h3.frozen 2, fun o => ⟨x0, o, x2, x3, x4, rfl, h3.set 2 (.int .i64 o)⟩⟩
  | 2, _ => exact ⟨3, x2, rfl, h3.cell rfl, h3.frozen 3, fun o => ⟨x0, x1, o, x3, x4, rfl, h3.set 3 (.int .i64 o)⟩⟩
  | 3, _ => exact ⟨4, x3, rfl, h3.cell rfl, h3.frozen 4, fun o => ⟨x0, x1, x2, o, x4, rfl, h3.set 4 (.int .i64 o)⟩⟩
  | 4, _ => exact ⟨5, x4, rfl, h3.cell rfl, h3.frozen 5, fun o => ⟨x0, x1, x2, x3, o, rfl, h3.set 5 (.int .i64 o)⟩⟩
theorem RecAt.f10 {w : World} {x : Nat} {a b c d e f g h i j : Value} {t : TypeId} (k : RecAt w x #[a, b, c, d, e, f, g, h, i, j] t) : w.frozen? ⟨x, 6, none⟩ = false ∧ w.frozen? ⟨x, 7, none⟩ = false ∧ w.frozen? ⟨x, 8, none⟩ = false ∧ w.frozen? ⟨x, 9, none⟩ = false := ⟨k.frozen 6, k.frozen 7, k.frozen 8, k.frozen 9⟩
def MGuess (l : List UInt8) (w : World) (e : Ending) (w' : World) : Prop := ∃ g q, e = .returned (msV g q) ∧ MsRows w' g q ∧ MsFar w.heap.size q ∧ Below w.heap.size w w' ∧ GuessMs l g
theorem MsRows.nil (w : World) (m : Ms) (hc : m.chain = []) (he : m.ents = []) (ht : m.marks = []) (hd : m.data = []) : MsRows w m ⟨none, 0, 0, none, 0, 0, none, 0, 0, none, 0, 0⟩ := by
  refine ⟨?_, ?_, ?_, ?_, ?_, ?_, ?_, ?_⟩ <;> simp only [hc, he, ht, hd, List.length_nil]
  · exact TRow.nil w
  · exact ERow.nil w
  · exact GRow.nil _ w
  · exact Row.empty _ _ _ (Nat.zero_le _) (fun _ => rfl)
theorem data_nilN {m : Ms} (h : MsOk m) (hk : m.kind ≠ 6) : m.data = [] := Classical.byContradiction fun h3 => hk (h.2.1.2.2.2.2.2.2.2 h3)
theorem MsFar.nil (B : Nat) : MsFar B ⟨none, 0, 0, none, 0, 0, none, 0, 0, none, 0, 0⟩ := fun x hx => by rcases hx with h | h | h <;> cases h
set_option maxRecDepth 100000 in
set_option maxHeartbeats 12800000 in
theorem msguess_any (ad : Option Addr) (n c : Nat) (l : List UInt8) (w : World) (hr : Row w ad c l) (hn : l.length = n) (hlen : n ≤ 100000) :
    Calls Try.prog 31 #[.slice ad n c] w (MGuess l w) := by
  have HR := Lib.hid hr
  have HN := Lib.hid hn
  have hc1 := hr.1
  rw [hn] at hc1
  by_cases h0 : n = 0
  · subst h0
    have HG : Hid (GuessMs l noMs) := Lib.hid (fun d hd hl => by have := bodyMs_len hd; rw [hl, hn] at this; omega)
    have hr2 := RecAt.new w zeroMs 27
    clear hr hn hc1
    go_enter Try.func31, Try.ntmps31
    go_wp2_with fail
    refine bodyPost_ret (results_c rfl rfl hr2 Try.underlying27 rfl (by kernel_rfl)) rfl ?_
    exact ⟨noMs, _, rfl, MsRows.nil _ _ rfl rfl rfl rfl, MsFar.nil _, (Below.refl _ _).alloc (Nat.le_refl _) _, HG.out⟩
  · obtain ⟨u, t, hl⟩ : ∃ u t, l = u :: t := by
      cases l with
      | nil => simp at hn; omega
      | cons u t => exact ⟨u, t, rfl⟩
    obtain ⟨bk, off, rfl, hcell⟩ := hr.at (by omega)
    have hcu := hcell 0 u (by rw [hl]; rfl)
    rw [Nat.add_zero] at hcu
    have hcu2 : (w.alloc (.cells #[.int .i64 0, .int .i64 0, .int .i64 0, .int .i64 0, .int .i64 0, .int .i64 0, .slice none 0 0, .slice none 0 0, .slice none 0 0, .slice none 0 0] 27)).cell? ⟨bk, off, none⟩ = some (.int .u8 (u.toNat : Nat)) := by
      rw [((Below.refl w.heap.size w).alloc (Nat.le_refl _) _ : Below w.heap.size w _).cell (World.block_lt_of_cell? w _ hcu)]; exact hcu
    have hu8 := u.toNat_lt
    obtain ⟨K8, hK8⟩ : ∃ K, u.toNat = K := ⟨_, rfl⟩
    have HK8 := Lib.hid hK8
    have HLU := Lib.hid hl
    rw [hK8] at hcu2 hu8
    have h1l : 1 ≤ l.length := by omega
    have hcm : c ≤ 9223372036854775807 := by have := hr.2.1; unfold maxLen at this; omega
    obtain ⟨X2, X3, B3⟩ := two_recsM w zeroMs #[.int .i64 (K8 : Nat), .int .i64 0, .int .i64 0, .int .i64 0, .int .i64 0, .int .i64 0, .slice none 0 0, .slice none 0 0, .slice none 0 0, .slice none 0 0] 27 27
    have HX2 := Lib.hid X2
    have HX3 := Lib.hid X3
    have HB3 := Lib.hid B3
    have hnz : ((n : Int) == 0) = false := by simp; omega
    have hw8 : ((K8 : Nat) : Int) % 256 = (K8 : Nat) := by omega
    clear hr hn hcell hcu hl hK8 X2 X3 B3
    go_enter Try.func31, Try.ntmps31
    go_upto_region 5 with fail
    simp only [zeroMs] at HX2 HX3 HB3
    generalize ((w.alloc (.cells #[.int .i64 0, .int .i64 0, .int .i64 0, .int .i64 0, .int .i64 0, .int .i64 0, .slice none 0 0, .slice none 0 0, .slice none 0 0, .slice none 0 0] 27)).alloc (.cells #[.int .i64 (K8 : Nat), .int .i64 0, .int .i64 0, .int .i64 0, .int .i64 0, .int .i64 0, .slice none 0 0, .slice none 0 0, .slice none 0 0, .slice none 0 0] 27)) = w3 at *
    obtain ⟨P3, hP3⟩ : ∃ P, w.heap.size + 1 = P := ⟨_, rfl⟩
    have HP3 := Lib.hid hP3
    rw [hP3] at HX3 ⊢
    clear hP3
    obtain ⟨P2, hP2⟩ : ∃ P, w.heap.size = P := ⟨_, rfl⟩
    have HP2 := Lib.hid hP2
    rw [hP2]
    rw [hP2] at HX2
    clear hP2 hcu2
    go_wp2_with fail
    go_loopw [4, 6, 22] (fun at' _ i wr => ∃ (j a : Nat) (xs : List Int), i = .int .i64 (j : Nat) ∧ at' = .int .i64 (a : Nat) ∧ j ≤ 5 ∧ Hid (LayMs wr P3 (K8 : Nat) xs) ∧ Hid (Read5 l j a xs) ∧ Hid (RecAt wr P2 zeroMs 27) ∧ Hid (Below w.heap.size w wr)) (fun _ _ i _ => 5 - (intOf i).toNat)
    case atStart => exact ⟨0, 1, _, rfl, rfl, by omega, Lib.hid ⟨0, 0, 0, 0, 0, rfl, HX3.out⟩, Lib.hid (read5_zero h1l), HX2, HB3⟩
    case round =>
      obtain ⟨j, a, xs, rfl, rfl, hj, hL, hD, hX2, hB⟩ := hrel
      by_cases hj5 : (j : Int) < 5
      · obtain ⟨K, v, hpl, hcl, hfr, hst⟩ := hL.out.at (show j < 5 by omega)
        have hix : ∀ W, (Instr.index 91 (.agg #[.pointer (some ⟨P3, 1, none⟩), .pointer (some ⟨P3, 2, none⟩), .pointer (some ⟨P3, 3, none⟩), .pointer (some ⟨P3, 4, none⟩), .pointer (some ⟨P3, 5, none⟩)]) (.int .i64 (j : Nat))).run Try.prog W = .ok (.pointer (some ⟨P3, K, none⟩)) W := fun W => run_ixp5 W _ _ _ _ _ j _ hpl
        obtain ⟨o, q, z, hg⟩ : ∃ o q z, getVA l ((a : Nat) : Int) = (o, q, z) := ⟨_, _, _, rfl⟩
        obtain ⟨a2, rfl, ha2⟩ := getVA_place hg (Int.natCast_nonneg _)
        have HK := Lib.hid (getvar_any (some ⟨bk, off, none⟩) n c l ((a : Nat) : Int) wr (HR.out.later hB.out) HN.out hlen (by omega) (by have := hD.out.2.2.1; have := HN.out; omega))
        rw [hg] at HK
        simp only [Got3] at HK
        have HD2 := Lib.hid (hD.out.step (show j < 5 by omega) hg)
        have HL2 := Lib.hid (hst o)
        have HX22 := Lib.hid (hX2.out.other (y := P3) (by have := HP3.out; have := HP2.out; omega) K (.int .i64 o))
        have HB2 := Lib.hid (hB.out.setCell (p := ⟨P3, K, none⟩) (by have := HP3.out; simp only; omega) (.int .i64 o))
        clear hst hpl hg ha2 hL hD hX2 hB
        go_wp2_with fail
        refine HK.out.mono ?_
        rintro e w5 ⟨rfl, rfl⟩
        go_wp2_with fail
        go_roundw
        case rel => exact ⟨j + 1, a2, _, by go_num, rfl, by omega, HL2, HD2, HX22, HB2⟩
        case measure => simp [intOf]; omega
      · have : j = 5 := by omega
        subst this
        obtain ⟨x0, x1, x2, x3, x4, rfl, hx3⟩ := hL.out
        have HRD := Lib.hid (read5_all hD.out)
        have HAL : Hid (a ≤ l.length) := Lib.hid hD.out.2.2.1
        clear hL hD HX2 HX3 HB3
        rcases (show ((K8 : Nat) : Int) = 2 ∨ ((K8 : Nat) : Int) = 4 ∨ ((K8 : Nat) : Int) = 6 ∨ (((K8 : Nat) : Int) ≠ 2 ∧ ((K8 : Nat) : Int) ≠ 4 ∧ ((K8 : Nat) : Int) ≠ 6) by omega) with hk | hk | hk | hk
        · have HKC := Lib.hid (guessChain_any (some ⟨bk, off, none⟩) n c l a wr (HR.out.later hB.out) HN.out hlen (by have := HAL.out; have := HN.out; omega))
          obtain ⟨y0, y1, y2, y3, y4, y5, y6, y7, y8, y9⟩ := hx3.c10
          have HX3 := Lib.hid hx3
          have tk2 : (((K8 : Nat) : Int) == 2) = true := by simp [hk]
          have tk4 : (((K8 : Nat) : Int) == 4) = false := by simp [hk]
          have HK2 := Lib.hid hk
          obtain ⟨wo, hwo⟩ : ∃ W, W = wr := ⟨_, rfl⟩
          subst hwo
          clear hx3 hk
          go_upto_region 13 with (go_at_call 68; refine HKC.out.mono ?_; rintro e w5 ⟨v5, ts, q5, rfl, o5, hq5, hts⟩; have HQ5 := Lib.hid hq5; have HTS := Lib.hid hts; have HB5 := Lib.hid o5.below; obtain ⟨m5, hm5⟩ : ∃ m, ts.length = m := ⟨_, rfl⟩; have HM5 := Lib.hid hm5; obtain ⟨a5, c5, rfl, r5, f5⟩ := o5.row_far hm5; have HR5 := Lib.hid r5; have HF5 := Lib.hid f5; clear o5 r5 f5 hq5 hts hm5 y0 y1 y2 y3 y4 y5 y6 y7 y8 y9; obtain ⟨y0, y1, y2, y3, y4, y5, y6, y7, y8, y9⟩ := (HX3.out.later HB5.out).c10; obtain ⟨f6, f7, f8, f9⟩ := (HX3.out.later HB5.out).f10)
          have HX6 := Lib.hid ((HX3.out.later HB5.out).set 6 (.slice a5 m5 c5))
          have HB6 := Lib.hid ((hB.out.trans (HB5.out.mono hB.out.size)).setCell (p := ⟨P3, 6, none⟩) (by have := HP3.out; simp only; omega) (.slice a5 m5 c5))
          have HR6 := Lib.hid (HR5.out.only (OnlyP.set w5 P3 6 (.slice a5 m5 c5)) (fun x hx => by have h1 := HF5.out x hx; have h2 := HX3.out.lt; omega))
          have HX2 := Lib.hid ((hX2.out.later HB5.out).other (y := P3) (by have := HP3.out; have := HP2.out; omega) 6 (.slice a5 m5 c5))
          have HSZ6 : Hid ((w5.setCell ⟨P3, 6, none⟩ (.slice a5 m5 c5)).heap.size = w5.heap.size) := Lib.hid (by simp [World.setCell])
          have HF6 : Hid (∀ x, a5 = some x → w.heap.size + 2 ≤ x.block) := Lib.hid (fun x hx => by have h1 := HF5.out x hx; have h2 := HX3.out.lt; have := HP3.out; omega)
          clear y0 y1 y2 y3 y4 y5 y6 y7 y8 y9 f6 f7 f8 f9 hX2
          generalize (w5.setCell ⟨P3, 6, none⟩ (.slice a5 m5 c5)) = w6 at *
          simp only [List.setIfInBounds_toArray, List.set_cons_zero, List.set_cons_succ] at HX6
          obtain ⟨y0, y1, y2, y3, y4, y5, y6, y7, y8, y9⟩ := HX6.out.c10
          have HKE := Lib.hid (guessEntries_any (some ⟨bk, off, none⟩) n c l q5 w6 (HR.out.later HB6.out) HN.out hlen (by have := HQ5.out; have := HN.out; omega))
          go_upto_region 19 with (go_at_call 69; refine HKE.out.mono ?_; rintro e w7 ⟨v7, es, rfl, o7, he4, hes⟩; have HES := Lib.hid hes; have HB7 := Lib.hid o7.below; obtain ⟨m7, hm7⟩ : ∃ m, es.length = m := ⟨_, rfl⟩; have HM7 := Lib.hid hm7; obtain ⟨a7, c7, rfl, r7, f7⟩ := o7.row_far hm7; have HR7 := Lib.hid r7; have HF7 := Lib.hid f7; clear o7 r7 f7 he4 hes hm7 y0 y1 y2 y3 y4 y5 y6 y7 y8 y9; obtain ⟨y0, y1, y2, y3, y4, y5, y6, y7, y8, y9⟩ := (HX6.out.later HB7.out).c10; obtain ⟨f6, f7, f8, f9⟩ := (HX6.out.later HB7.out).f10)
          have HX8 := Lib.hid ((HX6.out.later HB7.out).set 7 (.slice a7 m7 c7))
          have HB8 := Lib.hid ((HB6.out.trans (HB7.out.mono HB6.out.size)).setCell (p := ⟨P3, 7, none⟩) (by have := HP3.out; simp only; omega) (.slice a7 m7 c7))
          have HX2b := Lib.hid ((HX2.out.later HB7.out).other (y := P3) (by have := HP3.out; have := HP2.out; omega) 7 (.slice a7 m7 c7))
          have HRR : Hid (MsRows (w7.setCell ⟨P3, 7, none⟩ (.slice a7 m7 c7)) ⟨(K8 : Nat), x0, x1, x2, x3, x4, ts, es, [], []⟩ ⟨a5, m5, c5, a7, m7, c7, none, 0, 0, none, 0, 0⟩) := Lib.hid ⟨(HR6.out.later HB7.out).only (OnlyP.set w7 P3 7 _) (fun x hx => by have h1 := HF6.out x hx; have := HP3.out; omega), HR7.out.only (OnlyP.set w7 P3 7 _) (fun x hx => by have h1 := HF7.out x hx; have h2 := HX6.out.lt; omega) (HX6.out.later HB7.out) (noB8_ms _ _ _ _ _ _ _ _ _ _ _ _ _ _ _ _ _ _), GRow.nil _ _, Row.empty _ _ _ (Nat.zero_le _) (fun _ => rfl), HM5.out, HM7.out, rfl, rfl⟩
          have HFF : Hid (MsFar (w.heap.size + 1) ⟨a5, m5, c5, a7, m7, c7, none, 0, 0, none, 0, 0⟩) := Lib.hid (fun x hx => by
            rcases hx with h | h | h
            · have := HF6.out x h; omega
            · have h1 := HF7.out x h; have h2 := HX6.out.lt; have := HP3.out; omega
            · cases h)
          have HG : Hid (GuessMs l ⟨(K8 : Nat), x0, x1, x2, x3, x4, ts, es, [], []⟩) := Lib.hid (fun d hd hl2 => by
            obtain ⟨e0, e1, e2, e3, e4, e5⟩ := HRD.out d hd hl2
            have ek : d.kind = (K8 : Nat) := by rw [← HK8.out]; exact kind_is hd hl2 HLU.out
            have ek2 : d.kind = 2 := by rw [ek]; exact HK2.out
            obtain ⟨hc2, he2⟩ := hd.2.2.1 ek2
            rw [tailM_2 ek2] at e5
            obtain ⟨t1, t2⟩ := HTS.out _ _ hc2 e5
            have e6 : l.drop q5 = entsL d.ents ++ [] := by rw [t2, ← List.drop_drop, e5, List.drop_left, List.append_nil]
            have t3 := HES.out d.ents [] he2.1 he2.rights e6
            have hm : d.marks = [] := Classical.byContradiction fun h3 => by have := hd.2.1.2.2.2.2.2.2.1 h3; omega
            have hda : d.data = [] := data_nilN hd (by omega)
            obtain ⟨d0, d1, d2, d3, d4, d5, d6, d7, d8, d9⟩ := d
            simp only at e0 e1 e2 e3 e4 ek t1 t3 hm hda
            rw [ek, e0, e1, e2, e3, e4, t1, t3, hm, hda])
          clear y0 y1 y2 y3 y4 y5 y6 y7 y8 y9 f6 f7 f8 f9
          generalize (w7.setCell ⟨P3, 7, none⟩ (.slice a7 m7 c7)) = w8 at *
          simp only [List.setIfInBounds_toArray, List.set_cons_zero, List.set_cons_succ] at HX8
          obtain ⟨y0, y1, y2, y3, y4, y5, y6, y7, y8, y9⟩ := HX8.out.c10
          go_wp2_with (refine wpList_rec rfl rfl P2 zeroMs #[.int .i64 (K8 : Nat), .int .i64 x0, .int .i64 x1, .int .i64 x2, .int .i64 x3, .int .i64 x4, .slice a5 m5 c5, .slice a7 m7 c7, .slice none 0 0, .slice none 0 0] rfl rfl HX2b.out rfl (by kernel_rfl) (by kernel_rfl) ?_; intro w9 r1 r2 r3 r4)
          refine bodyPost_ret (results_c rfl rfl r1 Try.underlying27 rfl (by kernel_rfl)) rfl ?_
          exact ⟨_, ⟨a5, m5, c5, a7, m7, c7, none, 0, 0, none, 0, 0⟩, rfl, HRR.out.only HFF.out (by have := HP2.out; omega) r3 HX2b.out (noB8_ms _ _ _ _ _ _ _ _ _ _ _ _ _ _ _ _ _ _), HFF.out.weak (by omega), HB8.out.grown r4 HB8.out.size (fun q e => by cases e; exact Nat.le_of_eq HP2.out), HG.out⟩
        · have HKC := Lib.hid (guessChain_any (some ⟨bk, off, none⟩) n c l a wr (HR.out.later hB.out) HN.out hlen (by have := HAL.out; have := HN.out; omega))
          obtain ⟨y0, y1, y2, y3, y4, y5, y6, y7, y8, y9⟩ := hx3.c10
          have HX3 := Lib.hid hx3
          have tk2 : (((K8 : Nat) : Int) == 2) = false := by simp [hk]
          have tk4 : (((K8 : Nat) : Int) == 4) = true := by simp [hk]
          have HK2 := Lib.hid hk
          obtain ⟨wo, hwo⟩ : ∃ W, W = wr := ⟨_, rfl⟩
          subst hwo
          clear hx3 hk
          go_upto_region 16 with (go_at_call 68; refine HKC.out.mono ?_; rintro e w5 ⟨v5, ts, q5, rfl, o5, hq5, hts⟩; have HQ5 := Lib.hid hq5; have HTS := Lib.hid hts; have HB5 := Lib.hid o5.below; obtain ⟨m5, hm5⟩ : ∃ m, ts.length = m := ⟨_, rfl⟩; have HM5 := Lib.hid hm5; obtain ⟨a5, c5, rfl, r5, f5⟩ := o5.row_far hm5; have HR5 := Lib.hid r5; have HF5 := Lib.hid f5; clear o5 r5 f5 hq5 hts hm5 y0 y1 y2 y3 y4 y5 y6 y7 y8 y9; obtain ⟨y0, y1, y2, y3, y4, y5, y6, y7, y8, y9⟩ := (HX3.out.later HB5.out).c10; obtain ⟨f6, f7, f8, f9⟩ := (HX3.out.later HB5.out).f10)
          have HX6 := Lib.hid ((HX3.out.later HB5.out).set 6 (.slice a5 m5 c5))
          have HB6 := Lib.hid ((hB.out.trans (HB5.out.mono hB.out.size)).setCell (p := ⟨P3, 6, none⟩) (by have := HP3.out; simp only; omega) (.slice a5 m5 c5))
          have HR6 := Lib.hid (HR5.out.only (OnlyP.set w5 P3 6 (.slice a5 m5 c5)) (fun x hx => by have h1 := HF5.out x hx; have h2 := HX3.out.lt; omega))
          have HX2 := Lib.hid ((hX2.out.later HB5.out).other (y := P3) (by have := HP3.out; have := HP2.out; omega) 6 (.slice a5 m5 c5))
          have HSZ6 : Hid ((w5.setCell ⟨P3, 6, none⟩ (.slice a5 m5 c5)).heap.size = w5.heap.size) := Lib.hid (by simp [World.setCell])
          have HF6 : Hid (∀ x, a5 = some x → w.heap.size + 2 ≤ x.block) := Lib.hid (fun x hx => by have h1 := HF5.out x hx; have h2 := HX3.out.lt; have := HP3.out; omega)
          clear y0 y1 y2 y3 y4 y5 y6 y7 y8 y9 f6 f7 f8 f9 hX2
          generalize (w5.setCell ⟨P3, 6, none⟩ (.slice a5 m5 c5)) = w6 at *
          simp only [List.setIfInBounds_toArray, List.set_cons_zero, List.set_cons_succ] at HX6
          obtain ⟨y0, y1, y2, y3, y4, y5, y6, y7, y8, y9⟩ := HX6.out.c10
          have HKE := Lib.hid (guessMarks_any (some ⟨bk, off, none⟩) n c l q5 w6 (HR.out.later HB6.out) HN.out hlen (by have := HQ5.out; have := HN.out; omega))
          go_upto_region 19 with (go_at_call 70; refine HKE.out.mono ?_; rintro e w7 ⟨v7, es, rfl, o7, he4, hes⟩; have HES := Lib.hid hes; have HB7 := Lib.hid o7.below; obtain ⟨m7, hm7⟩ : ∃ m, es.length = m := ⟨_, rfl⟩; have HM7 := Lib.hid hm7; obtain ⟨a7, c7, rfl, r7, f7⟩ := o7.row_far mkOk hm7; have HR7 := Lib.hid r7; have HF7 := Lib.hid f7; clear o7 r7 f7 he4 hes hm7 y0 y1 y2 y3 y4 y5 y6 y7 y8 y9; obtain ⟨y0, y1, y2, y3, y4, y5, y6, y7, y8, y9⟩ := (HX6.out.later HB7.out).c10; obtain ⟨f6, f7, f8, f9⟩ := (HX6.out.later HB7.out).f10)
          have HX8 := Lib.hid ((HX6.out.later HB7.out).set 8 (.slice a7 m7 c7))
          have HB8 := Lib.hid ((HB6.out.trans (HB7.out.mono HB6.out.size)).setCell (p := ⟨P3, 8, none⟩) (by have := HP3.out; simp only; omega) (.slice a7 m7 c7))
          have HX2b := Lib.hid ((HX2.out.later HB7.out).other (y := P3) (by have := HP3.out; have := HP2.out; omega) 8 (.slice a7 m7 c7))
          have HRR : Hid (MsRows (w7.setCell ⟨P3, 8, none⟩ (.slice a7 m7 c7)) ⟨(K8 : Nat), x0, x1, x2, x3, x4, ts, [], es, []⟩ ⟨a5, m5, c5, none, 0, 0, a7, m7, c7, none, 0, 0⟩) := Lib.hid ⟨(HR6.out.later HB7.out).only (OnlyP.set w7 P3 8 _) (fun x hx => by have h1 := HF6.out x hx; have := HP3.out; omega), ERow.nil _, HR7.out.only (OnlyP.set w7 P3 8 _) (fun x hx => by have h1 := HF7.out x hx; have h2 := HX6.out.lt; omega), Row.empty _ _ _ (Nat.zero_le _) (fun _ => rfl), HM5.out, rfl, HM7.out, rfl⟩
          have HFF : Hid (MsFar (w.heap.size + 1) ⟨a5, m5, c5, none, 0, 0, a7, m7, c7, none, 0, 0⟩) := Lib.hid (fun x hx => by
            rcases hx with h | h | h
            · have := HF6.out x h; omega
            · cases h
            · have h1 := HF7.out x h; have h2 := HX6.out.lt; have := HP3.out; omega)
          have HG : Hid (GuessMs l ⟨(K8 : Nat), x0, x1, x2, x3, x4, ts, [], es, []⟩) := Lib.hid (fun d hd hl2 => by
            obtain ⟨e0, e1, e2, e3, e4, e5⟩ := HRD.out d hd hl2
            have ek : d.kind = (K8 : Nat) := by rw [← HK8.out]; exact kind_is hd hl2 HLU.out
            have ek2 : d.kind = 4 := by rw [ek]; exact HK2.out
            obtain ⟨hc2, he2⟩ := hd.2.2.2.1 ek2
            rw [tailM_4 ek2] at e5
            obtain ⟨t1, t2⟩ := HTS.out _ _ hc2 e5
            have e6 : l.drop q5 = marksL d.marks ++ [] := by rw [t2, ← List.drop_drop, e5, List.drop_left, List.append_nil]
            have t3 := HES.out d.marks ⟨⟨[], e6⟩, he2.2.1, fun t ht => ⟨(he2.mem t ht).in, (markL_len (he2.mem t ht).2.2.2.2).2⟩⟩
            have hm : d.ents = [] := Classical.byContradiction fun h3 => by have := hd.2.1.2.2.2.2.2.1 h3; omega
            have hda : d.data = [] := data_nilN hd (by omega)
            obtain ⟨d0, d1, d2, d3, d4, d5, d6, d7, d8, d9⟩ := d
            simp only at e0 e1 e2 e3 e4 ek t1 t3 hm hda
            rw [ek, e0, e1, e2, e3, e4, t1, t3, hm, hda])
          clear y0 y1 y2 y3 y4 y5 y6 y7 y8 y9 f6 f7 f8 f9
          generalize (w7.setCell ⟨P3, 8, none⟩ (.slice a7 m7 c7)) = w8 at *
          simp only [List.setIfInBounds_toArray, List.set_cons_zero, List.set_cons_succ] at HX8
          obtain ⟨y0, y1, y2, y3, y4, y5, y6, y7, y8, y9⟩ := HX8.out.c10
          go_wp2_with (refine wpList_rec rfl rfl P2 zeroMs #[.int .i64 (K8 : Nat), .int .i64 x0, .int .i64 x1, .int .i64 x2, .int .i64 x3, .int .i64 x4, .slice a5 m5 c5, .slice none 0 0, .slice a7 m7 c7, .slice none 0 0] rfl rfl HX2b.out rfl (by kernel_rfl) (by kernel_rfl) ?_; intro w9 r1 r2 r3 r4)
          refine bodyPost_ret (results_c rfl rfl r1 Try.underlying27 rfl (by kernel_rfl)) rfl ?_
          exact ⟨_, ⟨a5, m5, c5, none, 0, 0, a7, m7, c7, none, 0, 0⟩, rfl, HRR.out.only HFF.out (by have := HP2.out; omega) r3 HX2b.out (noB8_ms _ _ _ _ _ _ _ _ _ _ _ _ _ _ _ _ _ _), HFF.out.weak (by omega), HB8.out.grown r4 HB8.out.size (fun q e => by cases e; exact Nat.le_of_eq HP2.out), HG.out⟩
        · obtain ⟨aD, cD, rD, hsl⟩ := sl_from (HR.out.later hB.out) HN.out (by omega) (lo := a) (by have := HAL.out; have := HN.out; omega)
          obtain ⟨mD, hmD⟩ : ∃ m, n - a = m := ⟨_, rfl⟩
          rw [hmD] at hsl
          have HMD : Hid ((l.drop a).length = mD) := Lib.hid (by rw [List.length_drop, HN.out, hmD])
          have HRDD := Lib.hid rD
          obtain ⟨y0, y1, y2, y3, y4, y5, y6, y7, y8, y9⟩ := hx3.c10
          obtain ⟨f6, f7, f8, f9⟩ := hx3.f10
          have HX3 := Lib.hid hx3
          have tk2 : (((K8 : Nat) : Int) == 2) = false := by simp [hk]
          have tk4 : (((K8 : Nat) : Int) == 4) = false := by simp [hk]
          have tk6 : (((K8 : Nat) : Int) == 6) = true := by simp [hk]
          have HK2 := Lib.hid hk
          have hal : a ≤ n := by have := HAL.out; have := HN.out; omega
          clear hx3 hk rD hmD
          go_upto_region 19 with fail
          have HX8 := Lib.hid (HX3.out.set 9 (.slice aD mD cD))
          have HB8 := Lib.hid (hB.out.setCell (p := ⟨P3, 9, none⟩) (by have := HP3.out; simp only; omega) (.slice aD mD cD))
          have HX2b := Lib.hid (hX2.out.other (y := P3) (by have := HP3.out; have := HP2.out; omega) 9 (.slice aD mD cD))
          have HRR : Hid (MsRows (wr.setCell ⟨P3, 9, none⟩ (.slice aD mD cD)) ⟨(K8 : Nat), x0, x1, x2, x3, x4, [], [], [], l.drop a⟩ ⟨none, 0, 0, none, 0, 0, none, 0, 0, aD, mD, cD⟩) := Lib.hid ⟨TRow.nil _, ERow.nil _, GRow.nil _ _, HRDD.out.only (OnlyP.set wr P3 9 _) HX3.out (noB8_ms _ _ _ _ _ _ _ _ _ _ _ _ _ _ _ _ _ _), rfl, rfl, rfl, HMD.out⟩
          have HFF : Hid (MsFar (w.heap.size + 1) ⟨none, 0, 0, none, 0, 0, none, 0, 0, aD, mD, cD⟩) := Lib.hid (fun x hx => by rcases hx with h | h | h <;> cases h)
          have HG : Hid (GuessMs l ⟨(K8 : Nat), x0, x1, x2, x3, x4, [], [], [], l.drop a⟩) := Lib.hid (fun d hd hl2 => by
            obtain ⟨e0, e1, e2, e3, e4, e5⟩ := HRD.out d hd hl2
            have ek : d.kind = (K8 : Nat) := by rw [← HK8.out]; exact kind_is hd hl2 HLU.out
            have ek2 : d.kind = 6 := by rw [ek]; exact HK2.out
            rw [tailM_6 ek2] at e5
            have hc : d.chain = [] := Classical.byContradiction fun h3 => by have := hd.2.1.2.2.2.2.1 h3; omega
            have he : d.ents = [] := Classical.byContradiction fun h3 => by have := hd.2.1.2.2.2.2.2.1 h3; omega
            have hm : d.marks = [] := Classical.byContradiction fun h3 => by have := hd.2.1.2.2.2.2.2.2.1 h3; omega
            obtain ⟨d0, d1, d2, d3, d4, d5, d6, d7, d8, d9⟩ := d
            simp only at e0 e1 e2 e3 e4 e5 ek hc he hm
            rw [ek, e0, e1, e2, e3, e4, e5, hc, he, hm])
          clear y0 y1 y2 y3 y4 y5 y6 y7 y8 y9 f6 f7 f8 f9
          generalize (wr.setCell ⟨P3, 9, none⟩ (.slice aD mD cD)) = w8 at *
          simp only [List.setIfInBounds_toArray, List.set_cons_zero, List.set_cons_succ] at HX8
          obtain ⟨y0, y1, y2, y3, y4, y5, y6, y7, y8, y9⟩ := HX8.out.c10
          go_wp2_with (refine wpList_rec rfl rfl P2 zeroMs #[.int .i64 (K8 : Nat), .int .i64 x0, .int .i64 x1, .int .i64 x2, .int .i64 x3, .int .i64 x4, .slice none 0 0, .slice none 0 0, .slice none 0 0, .slice aD mD cD] rfl rfl HX2b.out rfl (by kernel_rfl) (by kernel_rfl) ?_; intro w9 r1 r2 r3 r4)
          refine bodyPost_ret (results_c rfl rfl r1 Try.underlying27 rfl (by kernel_rfl)) rfl ?_
          exact ⟨_, ⟨none, 0, 0, none, 0, 0, none, 0, 0, aD, mD, cD⟩, rfl, HRR.out.only HFF.out (by have := HP2.out; omega) r3 HX2b.out (noB8_ms _ _ _ _ _ _ _ _ _ _ _ _ _ _ _ _ _ _), HFF.out.weak (by omega), HB8.out.grown r4 HB8.out.size (fun q e => by cases e; exact Nat.le_of_eq HP2.out), HG.out⟩
        · obtain ⟨y0, y1, y2, y3, y4, y5, y6, y7, y8, y9⟩ := hx3.c10
          have HX3 := Lib.hid hx3
          have tk2 : (((K8 : Nat) : Int) == 2) = false := by simpa using hk.1
          have tk4 : (((K8 : Nat) : Int) == 4) = false := by simpa using hk.2.1
          have tk6 : (((K8 : Nat) : Int) == 6) = false := by simpa using hk.2.2
          have HK2 := Lib.hid hk
          have HG : Hid (GuessMs l ⟨(K8 : Nat), x0, x1, x2, x3, x4, [], [], [], []⟩) := Lib.hid (fun d hd hl2 => by
            obtain ⟨e0, e1, e2, e3, e4, e5⟩ := HRD.out d hd hl2
            have ek : d.kind = (K8 : Nat) := by rw [← HK8.out]; exact kind_is hd hl2 HLU.out
            have hkk := HK2.out
            rw [← ek] at hkk
            have hc : d.chain = [] := Classical.byContradiction fun h3 => by have := hd.2.1.2.2.2.2.1 h3; omega
            have he : d.ents = [] := Classical.byContradiction fun h3 => by have := hd.2.1.2.2.2.2.2.1 h3; omega
            have hm : d.marks = [] := Classical.byContradiction fun h3 => by have := hd.2.1.2.2.2.2.2.2.1 h3; omega
            have hda : d.data = [] := data_nilN hd hkk.2.2
            obtain ⟨d0, d1, d2, d3, d4, d5, d6, d7, d8, d9⟩ := d
            simp only at e0 e1 e2 e3 e4 ek hc he hm hda
            rw [ek, e0, e1, e2, e3, e4, hc, he, hm, hda])
          clear hx3 hk
          go_wp2_with (refine wpList_rec rfl rfl P2 zeroMs #[.int .i64 (K8 : Nat), .int .i64 x0, .int .i64 x1, .int .i64 x2, .int .i64 x3, .int .i64 x4, .slice none 0 0, .slice none 0 0, .slice none 0 0, .slice none 0 0] rfl rfl hX2.out rfl (by kernel_rfl) (by kernel_rfl) ?_; intro w9 r1 r2 r3 r4)
          refine bodyPost_ret (results_c rfl rfl r1 Try.underlying27 rfl (by kernel_rfl)) rfl ?_
          exact ⟨_, ⟨none, 0, 0, none, 0, 0, none, 0, 0, none, 0, 0⟩, rfl, MsRows.nil _ _ rfl rfl rfl rfl, MsFar.nil _, hB.out.grown r4 hB.out.size (fun q e => by cases e; exact Nat.le_of_eq HP2.out), HG.out⟩
end Go.Proofs.Ytiahifpbofkimaa
namespace Go.Proofs.Ytiahifpbofkimaa
open Go.RowKit Go.Proofs
set_option linter.unusedVariables false
set_option linter.unusedSimpArgs false
set_option linter.unnecessarySimpa false

def MsGot (l : List UInt8) (w : World) (e : Ending) (w' : World) : Prop := ∃ q, e = .returned (.tuple #[msV (getMs l).1 q, .int .i64 (getMs l).2]) ∧ MsRows w' (getMs l).1 q ∧ Below w.heap.size w w'
theorem msgot_no {l : List UInt8} {k : Int} {w w' : World} (h : getMs l = (noMs, k)) (hb : Below w.heap.size w w') : MsGot l w (.returned (.tuple #[.agg zeroMs, .int .i64 k])) w' := by
  unfold MsGot
  rw [h]
  exact ⟨_, rfl, MsRows.nil w' noMs rfl rfl rfl rfl, hb⟩
theorem msgot_yes {l : List UInt8} {g : Ms} {q : MsAt} {w w' : World} (h : getMs l = (g, 0)) (hr : MsRows w' g q) (hb : Below w.heap.size w w') : MsGot l w (.returned (.tuple #[msV g q, .int .i64 0])) w' := by
  unfold MsGot
  rw [h]
  exact ⟨q, rfl, hr, hb⟩
set_option maxRecDepth 100000 in
set_option maxHeartbeats 12800000 in
theorem msget_any (ad : Option Addr) (n c : Nat) (l : List UInt8) (w : World) (hr : Row w ad c l) (hn : l.length = n) (hlen : n ≤ 100000) :
    Calls Try.prog 12 #[.slice ad n c] w (MsGot l w) := by
  have HX2 := Lib.hid (RecAt.new w zeroMs 27)
  have HB1 := Lib.hid ((Below.refl w.heap.size w).alloc (Nat.le_refl _) (.cells zeroMs 27))
  have HOP := Lib.hid (open_any ad n c l _ (hr.later HB1.out) hn hlen)
  have HR := Lib.hid hr
  have HN := Lib.hid hn
  obtain ⟨Q, hQ⟩ : ∃ Q, MsGot l w = Q := ⟨_, rfl⟩
  rw [hQ]
  have HQN : Hid (∀ k w', getMs l = (noMs, k) → Below w.heap.size w w' → Q (.returned (.tuple #[.agg zeroMs, .int .i64 k])) w') := Lib.hid (fun k w' h hb => by rw [← hQ]; exact msgot_no h hb)
  have HQY : Hid (∀ g q w', getMs l = (g, 0) → MsRows w' g q → Below w.heap.size w w' → Q (.returned (.tuple #[msV g q, .int .i64 0])) w') := Lib.hid (fun g q w' h h2 hb => by rw [← hQ]; exact msgot_yes h h2 hb)
  clear hr hn hQ
  cases ho : openL l with
  | none =>
    rw [ho] at HOP
    have HG := Lib.hid (getMs_sum ho)
    clear ho
    go_enter Try.func12, Try.ntmps12
    go_upto_region 1 with fail
    simp only [zeroMs] at HX2 HB1 HOP
    generalize (w.alloc (.cells #[.int .i64 0, .int .i64 0, .int .i64 0, .int .i64 0, .int .i64 0, .int .i64 0, .slice none 0 0, .slice none 0 0, .slice none 0 0, .slice none 0 0] 27)) = w1 at *
    obtain ⟨P2, hP2⟩ : ∃ P, w.heap.size = P := ⟨_, rfl⟩
    have HP2 := Lib.hid hP2
    rw [hP2]
    rw [hP2] at HX2
    clear hP2
    go_wp2_with (first
      | (go_at_call 30; refine HOP.out.mono ?_; rintro e w2 ⟨v2, rfl, o2⟩; simp only [Option.isSome]; have HX22 := Lib.hid (HX2.out.later o2.below); have HB2 := Lib.hid (HB1.out.trans (o2.below.mono HB1.out.size)); clear o2)
      | (refine wpList_rec rfl rfl P2 zeroMs zeroMs rfl rfl HX22.out rfl (by kernel_rfl) (by kernel_rfl) ?_; intro w9 r1 r2 r3 r4))
    refine bodyPost_ret (results_ct rfl rfl r1 Try.underlying27 rfl (by kernel_rfl)) rfl ?_
    exact HQN.out _ _ HG.out (HB2.out.grown r4 HB2.out.size (fun q e => by cases e; exact Nat.le_of_eq HP2.out))
  | some p =>
    rw [ho] at HOP
    have HO := Lib.hid ho
    have hpl : p.length ≤ n := by
      have := (openL_some ho).1
      rw [this, List.length_take]; have := HN.out; omega
    clear ho
    go_enter Try.func12, Try.ntmps12
    go_upto_region 1 with fail
    simp only [zeroMs] at HX2 HB1 HOP
    generalize (w.alloc (.cells #[.int .i64 0, .int .i64 0, .int .i64 0, .int .i64 0, .int .i64 0, .int .i64 0, .slice none 0 0, .slice none 0 0, .slice none 0 0, .slice none 0 0] 27)) = w1 at *
    obtain ⟨P2, hP2⟩ : ∃ P, w.heap.size = P := ⟨_, rfl⟩
    have HP2 := Lib.hid hP2
    rw [hP2]
    rw [hP2] at HX2
    clear hP2
    obtain ⟨N, hN⟩ : ∃ N, p.length = N := ⟨_, rfl⟩
    have HNP := Lib.hid hN
    rw [hN] at hpl
    clear hN
    go_upto_region 4 with (go_at_call 30; refine HOP.out.mono ?_; rintro e w2 ⟨v2, rfl, o2⟩; simp only [Option.isSome, Option.getD] at o2 ⊢; obtain ⟨a2, c2, rfl, r2⟩ := o2.row_n HNP.out; have HR2 := Lib.hid r2; have HX22 := Lib.hid (HX2.out.later o2.below); have HB2 := Lib.hid (HB1.out.trans (o2.below.mono HB1.out.size)); clear o2 r2)
    have HGU := Lib.hid (msguess_any a2 N c2 p w2 HR2.out HNP.out (by omega))
    clear HOP HX2 HB1
    go_upto_region 5 with (go_at_call 31; refine HGU.out.mono ?_; rintro e w3 ⟨g, q, rfl, hrows, hfar, hb3, hgs⟩; have HRW := Lib.hid hrows; have HFA := Lib.hid hfar; have HB3 := Lib.hid hb3; have HGS := Lib.hid hgs; clear hrows hfar hb3 hgs)
    have HX6 := Lib.hid (RecAt.new w3 (msC g q) 27)
    have HB4 := Lib.hid ((Below.refl w3.heap.size w3).alloc (Nat.le_refl _) (.cells (msC g q) 27))
    have HB24 := Lib.hid (HB2.out.trans ((HB3.out.trans (HB4.out.mono HB3.out.size)).mono HB2.out.size))
    have HX24 := Lib.hid (HX22.out.later (HB3.out.trans (HB4.out.mono HB3.out.size)))
    have HP26 : Hid (P2 < w2.heap.size) := Lib.hid HX22.out.lt
    have HPU := Lib.hid (msput_any g q _ (HRW.out.later HB4.out))
    have HRW4 := Lib.hid (HRW.out.later HB4.out)
    clear HX22 HB2 HR2 HGU HRW
    obtain ⟨k, nn, o, f, s, u, C, E, T, D⟩ := g
    obtain ⟨ac, nc, cc, ae, ne, ce, am, nm, cm, ad', nd, cd⟩ := q
    simp only [msC] at HX6 HB4 HB24 HX24 HPU HRW4
    generalize (w3.alloc (.cells #[.int .i64 k, .int .i64 nn, .int .i64 o, .int .i64 f, .int .i64 s, .int .i64 u, .slice ac nc cc, .slice ae ne ce, .slice am nm cm, .slice ad' nd cd] 27)) = w4 at *
    obtain ⟨P6, hP6⟩ : ∃ P, w3.heap.size = P := ⟨_, rfl⟩
    rw [hP6]
    rw [hP6] at HX6
    clear hP6 HB4 HB3
    obtain ⟨y0, y1, y2, y3, y4, y5, y6, y7, y8, y9⟩ := HX6.out.c10
    obtain ⟨G, hG⟩ : ∃ G : Ms, (⟨k, nn, o, f, s, u, C, E, T, D⟩ : Ms) = G := ⟨_, rfl⟩
    obtain ⟨q, hq⟩ : ∃ q : MsAt, (⟨ac, nc, cc, ae, ne, ce, am, nm, cm, ad', nd, cd⟩ : MsAt) = q := ⟨_, rfl⟩
    have HGG := Lib.hid hG
    have HQQ := Lib.hid hq
    clear hG hq
    cases hrt : rightMs G with
    | false =>
      have HE : Hid (getMs l = (noMs, 2)) := Lib.hid (guessMs_not (g := G) HO.out (by rw [← HGG.out]; exact HGS.out) (.inl hrt))
      have HPU : Hid (Calls Try.prog 10 #[.agg #[.int .i64 k, .int .i64 nn, .int .i64 o, .int .i64 f, .int .i64 s, .int .i64 u, .slice ac nc cc, .slice ae ne ce, .slice am nm cm, .slice ad' nd cd]] w4 fun e w' => ∃ v, e = .returned (.tuple #[v, .int .i64 1]) ∧ Own w4 w' v []) := Lib.hid (HPU.out.mono fun e w' ⟨v, h1, h2⟩ => ⟨v, by rw [HGG.out, putMs_no hrt] at h1; exact h1, by rw [HGG.out, putMs_no hrt] at h2; exact h2⟩)
      clear hrt
      go_wp2_with (first
        | (go_at_call 10; refine HPU.out.mono ?_; rintro e w5 ⟨v5, rfl, o5⟩; have HX25 := Lib.hid (HX24.out.later o5.below); have HB5 := Lib.hid (HB24.out.trans (o5.below.mono HB24.out.size)); clear o5)
        | (refine wpList_rec rfl rfl P2 zeroMs zeroMs rfl rfl HX25.out rfl (by kernel_rfl) (by kernel_rfl) ?_; intro w9 r1 r2 r3 r4))
      refine bodyPost_ret (results_ct rfl rfl r1 Try.underlying27 rfl (by kernel_rfl)) rfl ?_
      exact HQN.out _ _ HE.out (HB5.out.grown r4 HB5.out.size (fun q e => by cases e; exact Nat.le_of_eq HP2.out))
    | true =>
      have HPU : Hid (Calls Try.prog 10 #[.agg #[.int .i64 k, .int .i64 nn, .int .i64 o, .int .i64 f, .int .i64 s, .int .i64 u, .slice ac nc cc, .slice ae ne ce, .slice am nm cm, .slice ad' nd cd]] w4 fun e w' => ∃ v, e = .returned (.tuple #[v, .int .i64 0]) ∧ Own w4 w' v (sealL (bodyMs G))) := Lib.hid (HPU.out.mono fun e w' ⟨v, h1, h2⟩ => ⟨v, by rw [HGG.out, putMs_yes hrt] at h1; exact h1, by rw [HGG.out, putMs_yes hrt] at h2; exact h2⟩)
      obtain ⟨S, hS⟩ : ∃ S, sealL (bodyMs G) = S := ⟨_, rfl⟩
      rw [hS] at HPU
      obtain ⟨NS, hNS⟩ : ∃ N, S.length = N := ⟨_, rfl⟩
      have HNS := Lib.hid hNS
      have HSS := Lib.hid hS
      clear hNS hS
      cases heq : decide (S = l) with
      | false =>
        have HE : Hid (getMs l = (noMs, 2)) := Lib.hid (guessMs_not (g := G) HO.out (by rw [← HGG.out]; exact HGS.out) (.inr (by rw [HSS.out]; exact of_decide_eq_false heq)))
        clear hrt
        go_wp2_with (first
          | (go_at_call 10; refine HPU.out.mono ?_; rintro e w5 ⟨v5, rfl, o5⟩; have HX25 := Lib.hid (HX24.out.later o5.below); have HB5 := Lib.hid (HB24.out.trans (o5.below.mono HB24.out.size)); obtain ⟨a5, c5, rfl, r5⟩ := o5.row_n HNS.out; have HR5 := Lib.hid r5; clear o5 r5)
          | (go_at_call 32; refine (equal_any a5 ad NS n c5 c S l _ HR5.out (HR.out.later HB5.out) HNS.out HN.out).mono ?_; rw [heq]; rintro e w6 ⟨rfl, rfl⟩)
          | (refine wpList_rec rfl rfl P2 zeroMs zeroMs rfl rfl HX25.out rfl (by kernel_rfl) (by kernel_rfl) ?_; intro w9 r1 r2 r3 r4))
        refine bodyPost_ret (results_ct rfl rfl r1 Try.underlying27 rfl (by kernel_rfl)) rfl ?_
        exact HQN.out _ _ HE.out (HB5.out.grown r4 HB5.out.size (fun q e => by cases e; exact Nat.le_of_eq HP2.out))
      | true =>
        have HE : Hid (getMs l = (G, 0)) := Lib.hid (guessMs_yes HO.out hrt (by rw [HSS.out]; exact of_decide_eq_true heq))
        rw [HGG.out, HQQ.out] at HRW4
        rw [HQQ.out] at HFA
        clear hrt
        go_wp2_with (first
          | (go_at_call 10; refine HPU.out.mono ?_; rintro e w5 ⟨v5, rfl, o5⟩; have HX25 := Lib.hid (HX24.out.later o5.below); have HB5 := Lib.hid (HB24.out.trans (o5.below.mono HB24.out.size)); have HRW5 := Lib.hid (HRW4.out.later o5.below); have HX65 := Lib.hid (HX6.out.later o5.below); obtain ⟨a5, c5, rfl, r5⟩ := o5.row_n HNS.out; have HR5 := Lib.hid r5; clear o5 r5 y0 y1 y2 y3 y4 y5 y6 y7 y8 y9; obtain ⟨y0, y1, y2, y3, y4, y5, y6, y7, y8, y9⟩ := HX65.out.c10)
          | (go_at_call 32; refine (equal_any a5 ad NS n c5 c S l _ HR5.out (HR.out.later HB5.out) HNS.out HN.out).mono ?_; rw [heq]; rintro e w6 ⟨rfl, rfl⟩)
          | (refine wpList_rec rfl rfl P2 zeroMs #[.int .i64 k, .int .i64 nn, .int .i64 o, .int .i64 f, .int .i64 s, .int .i64 u, .slice ac nc cc, .slice ae ne ce, .slice am nm cm, .slice ad' nd cd] rfl rfl HX25.out rfl (by kernel_rfl) (by kernel_rfl) ?_; intro w9 r1 r2 r3 r4))
        refine bodyPost_ret (results_ct rfl rfl r1 Try.underlying27 rfl (by kernel_rfl)) rfl ?_
        have hfin := HQY.out G q w9 HE.out (HRW5.out.only HFA.out HP26.out r3 HX25.out (noB8_ms _ _ _ _ _ _ _ _ _ _ _ _ _ _ _ _ _ _)) (HB5.out.grown r4 HB5.out.size (fun q e => by cases e; exact Nat.le_of_eq HP2.out))
        rw [← HGG.out, ← HQQ.out] at hfin
        exact hfin
end Go.Proofs.Ytiahifpbofkimaa
