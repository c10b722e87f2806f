/- Ways: the document's own Long. | Ways: the document's SameEvents. -/
import Derived.Test.YtbpddcmehjgleaaDfB
import Derived.Test.YtbpddcmehjgleaaGDc
import Derived.Test.YtbpddcmehjgleaaSameG
import Derived.Test.YtbpddcmehjgleaaGMd
namespace Go.Proofs.Ytbpddcmehjgleaa
open Go.RowKit Go.Proofs
set_option linter.unusedVariables false
set_option linter.unusedSimpArgs false
set_option linter.unnecessarySimpa false

/-! ### how long events are -/
def longN : List Ev → Nat
  | [] => 0
  | e :: l => (putEv e).1.length + longN l
theorem longN_snoc : ∀ (l : List Ev) (e : Ev), longN (l ++ [e]) = longN l + (putEv e).1.length
  | [], e => by simp [longN]
  | a :: l, e => by simp [longN, longN_snoc l e]; omega
theorem putEv_len (e : Ev) : (putEv e).1.length ≤ 67 := by
  unfold putEv
  split
  · rename_i h; exact (putE_len h).2
  · simp
theorem longN_le : ∀ l : List Ev, longN l ≤ 67 * l.length
  | [] => by simp [longN]
  | e :: l => by have := longN_le l; have := putEv_len e; simp [longN]; omega
theorem long_step {l : List Ev} {j : Nat} {e : Ev} (h : l[j]? = some e) : longN (l.take (j + 1)) = longN (l.take j) + (putEv e).1.length := by
  rw [List.take_add_one, h, Option.toList_some, longN_snoc]

set_option maxRecDepth 20000 in
set_option maxHeartbeats 6400000 in
theorem rlong15_any (a : Option Addr) (n cap : Nat) (l : List Ev) (J : Nat → Prop) (w : World) (h : QE J w (.slice a n cap) l) (hn : l.length = n) (hb : n ≤ 1000) :
    Calls Try.prog 15 #[.slice a n cap] w fun e w' => e = .returned (.int .i64 (longN l)) ∧ Below w.heap.size w w' := by
  have HQ := Lib.hid h
  have HN := Lib.hid hn
  obtain ⟨hl1, hl2⟩ := h.lim
  clear h hn
  go_enter Try.func15, Try.ntmps15
  go_wp2_with fail
  go_loopw [3, 4] (fun s i wr => ∃ j : Nat, i = .int .i64 j ∧ j ≤ n ∧ s = .int .i64 (longN (l.take j) : Nat) ∧ Hid (Below w.heap.size w wr)) (fun _ i _ => n - (intOf i).toNat)
  case atStart => exact ⟨0, rfl, by omega, by simp [longN], Lib.hid (Below.refl _ _)⟩
  case round =>
    obtain ⟨j, rfl, hj, rfl, HB⟩ := hrel
    by_cases hjn : (j : Int) < (n : Int)
    · have hjd : decide ((j : Int) < (n : Int)) = true := decide_eq_true hjn
      obtain ⟨e, he⟩ : ∃ e, l[j]? = some e := ⟨l[j]'(by have := HN.out; omega), List.getElem?_eq_getElem _⟩
      have HST := Lib.hid (long_step he)
      obtain ⟨b, off, S, a2, c2, ha, k0, k1, k2, k3, k4, hS1, hS2, R2⟩ := (HQ.out.later ev_rel HB.out).e5 he
      subst ha
      obtain ⟨LD, hLD⟩ : ∃ z, e.data.length = z := ⟨_, rfl⟩
      rw [hLD] at k3
      obtain ⟨PL, hPL⟩ : ∃ z, (putEv e).1.length = z := ⟨_, rfl⟩
      have hP67 : PL ≤ 67 := by rw [← hPL]; exact putEv_len e
      rw [hPL] at HST
      have HSUM : Hid (longN (l.take j) ≤ 67000) := Lib.hid (by have := longN_le (l.take j); rw [List.length_take] at this; omega)
      obtain ⟨SJ, hSJ⟩ : ∃ z, longN (l.take j) = z := ⟨_, rfl⟩
      rw [hSJ] at HST HSUM ⊢
      have hSJ2 := HSUM.out
      have HPE := Lib.hid ((rputE_any e.off e.len a2 LD c2 e.data S wr e.kind R2 hLD hS2))
      rw [hS1] at HPE
      change Hid (Calls _ _ _ wr fun e6 w6 => ∃ v, e6 = .returned (.tuple #[v, .int .i64 (putEv e).2]) ∧ Own wr w6 v (putEv e).1) at HPE
      have HPL := Lib.hid hPL
      clear hSJ hPL hLD he hS1 hS2 R2
      go_wp2_with fail
      refine HPE.out.mono ?_
      rintro e6 w6 ⟨v6, rfl, o6⟩
      obtain ⟨a6, c6, rfl, -⟩ := o6.row_n HPL.out
      have HB6 := Lib.hid (HB.out.trans (o6.below.mono HB.out.size))
      clear o6 k0 k1 k2 k3 k4
      have hw1 : IntKind.i64.wrap ((SJ : Int) + (PL : Int)) = ((SJ + PL : Nat) : Int) := by rw [IntKind.wrap_i64]; omega
      go_wp2_with fail
      go_roundw
      case rel => exact ⟨j + 1, by go_num, by omega, by rw [HST.out]; go_num, HB6⟩
      case measure => simp [intOf]; omega
    · have hjd : decide ((j : Int) < (n : Int)) = false := decide_eq_false hjn
      have HE : Hid (longN (l.take j) = longN l) := Lib.hid (by rw [List.take_of_length_le (by rw [HN.out]; omega)])
      go_wp2_with fail
      go_ret
      exact ⟨by rw [HE.out]; rfl, HB.out⟩
end Go.Proofs.Ytbpddcmehjgleaa
namespace Go.Proofs.Ytbpddcmehjgleaa
open Go.RowKit Go.Proofs
set_option linter.unusedVariables false
set_option linter.unusedSimpArgs false
set_option linter.unnecessarySimpa false

deriving instance DecidableEq for Ev
theorem ev_eq_iff {a b : Ev} {S T : ByteArray} (hS : S.data.toList = a.name) (hT : T.data.toList = b.name) : decide (a = b) = true ↔ a.kind = b.kind ∧ a.off = b.off ∧ a.len = b.len ∧ S = T ∧ a.data = b.data := by
  rw [decide_eq_true_iff, str_iff hS hT]
  obtain ⟨k1, o1, m1, d1, n1⟩ := a
  obtain ⟨k2, o2, m2, d2, n2⟩ := b
  simp only [Ev.mk.injEq]
  constructor
  · rintro ⟨h1, h2, h3, h4, h5⟩; exact ⟨h1, h2, h3, h5, h4⟩
  · rintro ⟨h1, h2, h3, h4, h5⟩; exact ⟨h1, h2, h3, h5, h4⟩

set_option maxRecDepth 20000 in
set_option maxHeartbeats 6400000 in
theorem rsames15_any (a1 a2 : Option Addr) (n m c1 c2 : Nat) (l u : List Ev) (J1 J2 : Nat → Prop) (w : World) (h1 : QE J1 w (.slice a1 n c1) l) (h2 : QE J2 w (.slice a2 m c2) u) (hn : l.length = n) (hm : u.length = m) :
    Calls Try.prog 11 #[.slice a1 n c1, .slice a2 m c2] w fun e w' => e = .returned (.bool (decide (l = u))) ∧ Below w.heap.size w w' := by
  obtain ⟨B, hB⟩ : ∃ B, decide (l = u) = B := ⟨_, rfl⟩
  rw [hB]
  have HBD := Lib.hid hB
  have HL := Lib.hid h1
  have HU := Lib.hid h2
  have HN := Lib.hid hn
  have HM := Lib.hid hm
  obtain ⟨hl1, hl2⟩ := h1.lim
  obtain ⟨hl3, hl4⟩ := h2.lim
  have ue1 := Try.underlying46
  clear h1 h2 hn hm hB
  go_enter Try.func11, Try.ntmps11
  by_cases hnm : n = m
  · have hqn : ((n : Int) != (m : Int)) = false := by subst hnm; simp
    go_wp2_with fail
    go_loopw [5] (fun i wr => ∃ j : Nat, i = .int .i64 j ∧ j ≤ n ∧ Hid (Below w.heap.size w wr) ∧ Hid (∀ k, k < j → l[k]? = u[k]?)) (fun i _ => n - (intOf i).toNat)
    case atStart => exact ⟨0, rfl, by omega, Lib.hid (Below.refl _ _), Lib.hid fun k h => by omega⟩
    case round =>
      obtain ⟨j, rfl, hj, HB, HA⟩ := hrel
      obtain ⟨wo, hwo⟩ : ∃ W, W = wr := ⟨_, rfl⟩
      subst hwo
      by_cases hjn : (j : Int) < (n : Int)
      · have hjd : decide ((j : Int) < (n : Int)) = true := decide_eq_true hjn
        obtain ⟨e, he⟩ : ∃ e, l[j]? = some e := ⟨l[j]'(by have := HN.out; omega), List.getElem?_eq_getElem _⟩
        obtain ⟨v, hv⟩ : ∃ e, u[j]? = some e := ⟨u[j]'(by have := HM.out; omega), List.getElem?_eq_getElem _⟩
        obtain ⟨b1, f1, S1, d1, e1, ha1, p0, p1, p2, p3, p4, hS1, hS2, R1⟩ := (HL.out.later ev_rel HB.out).e5 he
        obtain ⟨b2, f2, S2, d2, e2, ha2, q0, q1, q2, q3, q4, hT1, hT2, R2⟩ := (HU.out.later ev_rel HB.out).e5 hv
        subst ha1 ha2
        obtain ⟨BB, hBB⟩ : ∃ z, decide (e = v) = z := ⟨_, rfl⟩
        have HEI : Hid (BB = true ↔ e.kind = v.kind ∧ e.off = v.off ∧ e.len = v.len ∧ S1 = S2 ∧ e.data = v.data) := Lib.hid (by rw [← hBB]; exact ev_eq_iff hS1 hT1)
        have HNO : Hid (BB = false → B = false) := Lib.hid fun h => by
          rw [← HBD.out, decide_eq_false_iff_not]; rintro rfl
          rw [he] at hv; rw [Option.some.inj hv, decide_eq_true rfl] at hBB; rw [h] at hBB; cases hBB
        have HYE : Hid (BB = true → ∀ k, k < j + 1 → l[k]? = u[k]?) := Lib.hid fun h k hk => by
          by_cases c : k = j
          · subst c; rw [h] at hBB; rw [he, hv, of_decide_eq_true hBB]
          · exact HA.out k (by omega)
        have HSM : Hid (∀ wq, Below wo.heap.size wo wq → Calls Try.prog 27 #[.agg #[.int .i64 e.kind, .int .i64 e.off, .int .i64 e.len, .slice d1 e.data.length e1, .string S1], .agg #[.int .i64 v.kind, .int .i64 v.off, .int .i64 v.len, .slice d2 v.data.length e2, .string S2]] wq fun e w' => e = .returned (.bool BB) ∧ Below wq.heap.size wq w') := Lib.hid fun wq hb => rsame_any _ _ _ _ _ _ _ _ _ _ _ _ _ _ _ _ wq (R1.later hb) (R2.later hb) rfl rfl BB HEI.out
        have HE1 : Hid (∀ wq, Below wo.heap.size wo wq → wq.cell? ⟨b1, f1 + j * 5, none⟩ = some (.int .i64 e.kind) ∧ wq.cell? ⟨b1, f1 + j * 5 + 1, none⟩ = some (.int .i64 e.off) ∧ wq.cell? ⟨b1, f1 + j * 5 + 2, none⟩ = some (.int .i64 e.len) ∧ wq.cell? ⟨b1, f1 + j * 5 + 3, none⟩ = some (.slice d1 e.data.length e1) ∧ wq.cell? ⟨b1, f1 + j * 5 + 4, none⟩ = some (.string S1)) := Lib.hid fun wq h => ⟨(Below.cell h (World.block_lt_of_cell? _ _ p0)).trans p0, (Below.cell h (World.block_lt_of_cell? _ _ p1)).trans p1, (Below.cell h (World.block_lt_of_cell? _ _ p2)).trans p2, (Below.cell h (World.block_lt_of_cell? _ _ p3)).trans p3, (Below.cell h (World.block_lt_of_cell? _ _ p4)).trans p4⟩
        have HE2 : Hid (∀ wq, Below wo.heap.size wo wq → wq.cell? ⟨b2, f2 + j * 5, none⟩ = some (.int .i64 v.kind) ∧ wq.cell? ⟨b2, f2 + j * 5 + 1, none⟩ = some (.int .i64 v.off) ∧ wq.cell? ⟨b2, f2 + j * 5 + 2, none⟩ = some (.int .i64 v.len) ∧ wq.cell? ⟨b2, f2 + j * 5 + 3, none⟩ = some (.slice d2 v.data.length e2) ∧ wq.cell? ⟨b2, f2 + j * 5 + 4, none⟩ = some (.string S2)) := Lib.hid fun wq h => ⟨(Below.cell h (World.block_lt_of_cell? _ _ q0)).trans q0, (Below.cell h (World.block_lt_of_cell? _ _ q1)).trans q1, (Below.cell h (World.block_lt_of_cell? _ _ q2)).trans q2, (Below.cell h (World.block_lt_of_cell? _ _ q3)).trans q3, (Below.cell h (World.block_lt_of_cell? _ _ q4)).trans q4⟩
        have HJN : Hid ((j : Int) < (n : Int)) := Lib.hid hjn
        have HJM : Hid ((j : Int) < (m : Int)) := Lib.hid (by omega)
        clear p0 p1 p2 p3 p4 q0 q1 q2 q3 q4 hS1 hS2 hT1 hT2 R1 R2 he hv hBB HEI HA
        generalize e.kind = K1 at *
        generalize e.off = O1 at *
        generalize e.len = M1 at *
        generalize e.data.length = L1 at *
        generalize v.kind = K2 at *
        generalize v.off = O2 at *
        generalize v.len = M2 at *
        generalize v.data.length = L2 at *
        clear e v
        go_upto_region 6 with fail
        -- REG S6
        refine wp_region_ptab (L := fun ph => match ph with | _ => [cV (.slice (some ⟨b1, f1, none⟩) n c1), cV (.int .i64 (j : Nat)), cV (.pointer (some ⟨b1, f1 + j * 5, none⟩)), cV (.agg #[.int .i64 K1, .int .i64 O1, .int .i64 M1, .slice d1 L1 e1, .string S1]), cV (.slice (some ⟨b2, f2, none⟩) m c2), cV (.int .i64 (j : Nat)), cV (.pointer (some ⟨b2, f2 + j * 5, none⟩)), cV (.agg #[.int .i64 K2, .int .i64 O2, .int .i64 M2, .slice d2 L2 e2, .string S2]), cV (.bool BB), cV (.bool (!BB))]) (fun _ wq => Below wo.heap.size wo wq) [] [(0, 0), (0, 0), (0, 0), (0, 0), (0, 0), (0, 0), (0, 0), (0, 0), (0, 0), (0, 0)] [[(0, none)], [(5, none)], [(17, some 0), (18, some 1)], [(19, some 2)], [(1, none)], [(5, none)], [(21, some 4), (22, some 5)], [(23, some 6)], [(20, some 3), (24, some 7)], [(25, some 8)]] 10 0 27 (by kernel_rfl) rfl rfl rfl (by kernel_rfl) (by kernel_rfl) (by decide) (by kernel_rfl) ?_ ?_ ?_ ?_ ?_
        · exact fun ph w1 w2 h hb => h.trans (hb.mono h.size)
        · exact Below.refl _ _
        · show ∀ i, i < 10 → _
          iterate 10 (refine fls ?_ ?_)
          · exact fl0
          · intro hne lo hi ph hran hp1 hp2 a w1 hJ hsz hs      -- 0: slot 17
            obtain ⟨rfl, rfl⟩ : 0 = lo ∧ 0 = hi := Prod.mk.inj (Option.some.inj hran)
            obtain rfl : ph = 0 := by omega
            obtain ⟨h0, _⟩ := hs
            have h0 : a.tmps.getD 0 undef = .slice (some ⟨b1, f1, none⟩) n c1 := h0
            refine op_run rfl rfl (v := .slice (some ⟨b1, f1, none⟩) n c1) (w' := w1) ?_ rfl (Below.refl _ _)
            simp [execOp, Act.eval, h0, go_sem]
          · intro hne lo hi ph hran hp1 hp2 a w1 hJ hsz hs      -- 1: slot 18
            obtain ⟨rfl, rfl⟩ : 0 = lo ∧ 0 = hi := Prod.mk.inj (Option.some.inj hran)
            obtain rfl : ph = 0 := by omega
            obtain ⟨h0, _⟩ := hs
            have h0 : a.tmps.getD 5 undef = .int .i64 (j : Nat) := h0
            refine op_run rfl rfl (v := .int .i64 (j : Nat)) (w' := w1) ?_ rfl (Below.refl _ _)
            simp [execOp, Act.eval, h0, go_sem]
          · intro hne lo hi ph hran hp1 hp2 a w1 hJ hsz hs      -- 2: slot 19
            obtain ⟨rfl, rfl⟩ : 0 = lo ∧ 0 = hi := Prod.mk.inj (Option.some.inj hran)
            obtain rfl : ph = 0 := by omega
            obtain ⟨h0, h1, _⟩ := hs
            have h0 : a.tmps.getD 17 undef = .slice (some ⟨b1, f1, none⟩) n c1 := h0
            have h1 : a.tmps.getD 18 undef = .int .i64 (j : Nat) := h1
            have k1 := HJN.out
            refine op_run rfl rfl (v := .pointer (some ⟨b1, f1 + j * 5, none⟩)) (w' := w1) ?_ rfl (Below.refl _ _)
            simp [execOp, Act.eval, h0, h1, k1, go_sem]
          · intro hne lo hi ph hran hp1 hp2 a w1 hJ hsz hs      -- 3: slot 20
            obtain ⟨rfl, rfl⟩ : 0 = lo ∧ 0 = hi := Prod.mk.inj (Option.some.inj hran)
            obtain rfl : ph = 0 := by omega
            obtain ⟨h0, _⟩ := hs
            have h0 : a.tmps.getD 19 undef = .pointer (some ⟨b1, f1 + j * 5, none⟩) := h0
            obtain ⟨k0, k1, k2, k3, k4⟩ := HE1.out w1 (show Below wo.heap.size wo w1 from hJ)
            refine op_run rfl rfl (v := .agg #[.int .i64 K1, .int .i64 O1, .int .i64 M1, .slice d1 L1 e1, .string S1]) (w' := w1) ?_ rfl (Below.refl _ _)
            simp [execOp, Act.eval, h0, k0, k1, k2, k3, k4, ue1, go_sem]
          · intro hne lo hi ph hran hp1 hp2 a w1 hJ hsz hs      -- 4: slot 21
            obtain ⟨rfl, rfl⟩ : 0 = lo ∧ 0 = hi := Prod.mk.inj (Option.some.inj hran)
            obtain rfl : ph = 0 := by omega
            obtain ⟨h0, _⟩ := hs
            have h0 : a.tmps.getD 1 undef = .slice (some ⟨b2, f2, none⟩) m c2 := h0
            refine op_run rfl rfl (v := .slice (some ⟨b2, f2, none⟩) m c2) (w' := w1) ?_ rfl (Below.refl _ _)
            simp [execOp, Act.eval, h0, go_sem]
          · intro hne lo hi ph hran hp1 hp2 a w1 hJ hsz hs      -- 5: slot 22
            obtain ⟨rfl, rfl⟩ : 0 = lo ∧ 0 = hi := Prod.mk.inj (Option.some.inj hran)
            obtain rfl : ph = 0 := by omega
            obtain ⟨h0, _⟩ := hs
            have h0 : a.tmps.getD 5 undef = .int .i64 (j : Nat) := h0
            refine op_run rfl rfl (v := .int .i64 (j : Nat)) (w' := w1) ?_ rfl (Below.refl _ _)
            simp [execOp, Act.eval, h0, go_sem]
          · intro hne lo hi ph hran hp1 hp2 a w1 hJ hsz hs      -- 6: slot 23
            obtain ⟨rfl, rfl⟩ : 0 = lo ∧ 0 = hi := Prod.mk.inj (Option.some.inj hran)
            obtain rfl : ph = 0 := by omega
            obtain ⟨h0, h1, _⟩ := hs
            have h0 : a.tmps.getD 21 undef = .slice (some ⟨b2, f2, none⟩) m c2 := h0
            have h1 : a.tmps.getD 22 undef = .int .i64 (j : Nat) := h1
            have k1 := HJM.out
            refine op_run rfl rfl (v := .pointer (some ⟨b2, f2 + j * 5, none⟩)) (w' := w1) ?_ rfl (Below.refl _ _)
            simp [execOp, Act.eval, h0, h1, k1, go_sem]
          · intro hne lo hi ph hran hp1 hp2 a w1 hJ hsz hs      -- 7: slot 24
            obtain ⟨rfl, rfl⟩ : 0 = lo ∧ 0 = hi := Prod.mk.inj (Option.some.inj hran)
            obtain rfl : ph = 0 := by omega
            obtain ⟨h0, _⟩ := hs
            have h0 : a.tmps.getD 23 undef = .pointer (some ⟨b2, f2 + j * 5, none⟩) := h0
            obtain ⟨k0, k1, k2, k3, k4⟩ := HE2.out w1 (show Below wo.heap.size wo w1 from hJ)
            refine op_run rfl rfl (v := .agg #[.int .i64 K2, .int .i64 O2, .int .i64 M2, .slice d2 L2 e2, .string S2]) (w' := w1) ?_ rfl (Below.refl _ _)
            simp [execOp, Act.eval, h0, k0, k1, k2, k3, k4, ue1, go_sem]
          · intro hne lo hi ph hran hp1 hp2 a w1 hJ hsz hs      -- 8: slot 25
            obtain ⟨rfl, rfl⟩ : 0 = lo ∧ 0 = hi := Prod.mk.inj (Option.some.inj hran)
            obtain rfl : ph = 0 := by omega
            obtain ⟨h0, h1, _⟩ := hs
            have h0 : a.tmps.getD 20 undef = .agg #[.int .i64 K1, .int .i64 O1, .int .i64 M1, .slice d1 L1 e1, .string S1] := h0
            have h1 : a.tmps.getD 24 undef = .agg #[.int .i64 K2, .int .i64 O2, .int .i64 M2, .slice d2 L2 e2, .string S2] := h1
            refine op_call rfl rfl (f := 27) (args := #[.agg #[.int .i64 K1, .int .i64 O1, .int .i64 M1, .slice d1 L1 e1, .string S1], .agg #[.int .i64 K2, .int .i64 O2, .int .i64 M2, .slice d2 L2 e2, .string S2]]) (by simp [execOp, Act.eval, resolve, h0, h1, go_sem]) ?_
            exact calls_c (HSM.out w1 (show Below wo.heap.size wo w1 from hJ))
          · intro hne lo hi ph hran hp1 hp2 a w1 hJ hsz hs      -- 9: slot 26
            obtain ⟨rfl, rfl⟩ : 0 = lo ∧ 0 = hi := Prod.mk.inj (Option.some.inj hran)
            obtain rfl : ph = 0 := by omega
            obtain ⟨h0, _⟩ := hs
            have h0 : a.tmps.getD 25 undef = .bool BB := h0
            refine op_run rfl rfl (v := .bool (!BB)) (w' := w1) ?_ rfl (Below.refl _ _)
            simp [execOp, Act.eval, h0, go_sem]
        · show ∀ ph, ph < 0 → _
          iterate 0 (refine fls ?_ ?_)
          · exact fl0
        intro f w1 hJ hv
        have e26 : f 26 = .bool (!BB) := hv 9 _ 26 rfl rfl
        have hbo : Below wo.heap.size wo w1 := hJ
        clear hv
        try simp only [Exit.then]
        simp only [putAll, List.foldl_cons, List.foldl_nil, Option.getD_some, Act.put, List.setIfInBounds_toArray, List.set_cons_succ, List.set_cons_zero]
        rw [e26]
        -- END S6
        have HB9 := Lib.hid (HB.out.trans (hbo.mono HB.out.size))
        clear hbo hJ e26
        cases BB with
        | true =>
          have HA2 := Lib.hid (HYE.out rfl)
          go_wp2_with fail
          go_roundw
          case rel => exact ⟨j + 1, by go_num, by omega, HB9, HA2⟩
          case measure => simp [intOf]; omega
        | false =>
          have HF := Lib.hid (HNO.out rfl)
          go_wp2_with fail
          go_ret
          exact ⟨ret_bool HF.out.symm, HB9.out⟩
      · have hjd : decide ((j : Int) < (n : Int)) = false := decide_eq_false hjn
        have HF : Hid (B = true) := Lib.hid (by rw [← HBD.out]; exact sameG_yes HN.out (by rw [HM.out]; exact hnm.symm) (fun k hk => HA.out k (by omega)))
        go_wp2_with fail
        go_ret
        exact ⟨ret_bool HF.out.symm, HB.out⟩
  · have hqn : ((n : Int) != (m : Int)) = true := by simp; omega
    have HF : Hid (B = false) := Lib.hid (by rw [← HBD.out, decide_eq_false_iff_not]; intro e; exact hnm (by rw [← HN.out, ← HM.out, e]))
    clear hnm
    go_wp2_with fail
    go_ret
    exact ⟨ret_bool HF.out.symm, Below.refl _ _⟩
end Go.Proofs.Ytbpddcmehjgleaa
