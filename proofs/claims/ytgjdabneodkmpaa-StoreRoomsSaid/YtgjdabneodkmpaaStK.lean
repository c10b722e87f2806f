/- The keys of a map of wet deeds, collected: 'maps.Keys', 'slices.Collect' at keys of four numbers. -/
import Derived.Test.YtgjdabneodkmpaaStW
import Derived.Shelf.SlIter.Collect
import Derived.Sort.MapsRangeIn
import Derived.Sort.EveryDepth
namespace Go.Proofs.Ytgjdabneodkmpaa
open Go.RowKit Go.Proofs
set_option linter.unusedVariables false

def kcells (k : K4) : List Value := [.int .i64 k.a, .int .i64 k.b, .int .i64 k.c, .int .i64 k.d]
def KeysAre (pm : K4 → Option Nat) (ss : List K4) : Prop := ss.Nodup ∧ ∀ k, k ∈ ss ↔ ((pm k).isSome = true ∧ k.ok)

set_option maxRecDepth 100000 in
set_option maxHeartbeats 1000000 in
theorem keys1_in (F : Fence) (n : Nat) (h64 : F.fn 64) (hro : F.round = none) (hn : 1 ≤ n) (l Bm b nn : Nat) (D0 : DataW Value) (pm : K4 → Option Nat) (hD : PD D0 pm nn) (J : List K4 → World → Prop)
    (hY : ∀ pre x W, J pre W → pre.length < nn → YieldAt F (n - 1) Try.prog l #[kv x] W fun e W' => e = .returned (.bool true) ∧ J (pre ++ [x]) W' ∧ KeepsWalks W W')
    (W : World) (hJ : AbidesFrom W.heap.size J) (hm : W.cell? ⟨Bm, 0, none⟩ = some (.map (some b))) (hown : W.ownsMap Try.prog 27 ptrE b nn D0) (h0 : J [] W) :
    CallsIn F n Try.prog 64 #[.func (.yield l) #[] #[], .pointer (some ⟨Bm, 0, none⟩)] W fun e W' => (∃ v, e = .returned v) ∧ ∃ ss : List K4, KeysAre pm ss ∧ J ss W' := by
  have HD := Lib.hid hD
  clear hD
  refine callsIn_of_wp Try.func64 rfl h64 ?_ hro
  simp only [Try.ntmps64, List.size_toArray, List.length_cons, List.length_nil, Nat.reduceAdd, Nat.reduceSub, Array.replicate_succ, Array.replicate_zero, List.push_toArray, List.append_toArray, List.nil_append, List.cons_append]
  gi_wp2_with (first
    | (gi_at_range; refine wpListIn_range_own _ rfl _ 62 rfl 27 80 keyed Try.underlying62 _ b nn _ rfl hown ?_; intro w0 hrg0 hg0 hs0)
    | gi_in)
  go_frame
  gi_loopw [3] (fun _ wr => ∃ (left : Lit → Bool) (cnt : Nat) (ss : List K4), wr.ranges Try.prog 27 ptrE b W.heap.size nn D0 left cnt ∧ ss.length + cnt ≤ nn ∧ Hid (Coll pm left ss) ∧ Hid (J ss wr) ∧ W.heap.size ≤ wr.heap.size)
    (fun _ wr => wr.rangeLeft b W.heap.size)
  case atStart =>
    exact ⟨_, _, [], hrg0, by rw [HD.out.size]; simp, Lib.hid (Coll.start HD.out), Lib.hid (hJ [] W w0 none h0 hg0 (fun r e => by cases e)), hg0.size⟩
  case round =>
    obtain ⟨left, cnt, ss, hrg, hcs, HC, HJs, hws⟩ := hrel
    gi_wp2_with (first
      | (gi_at_next; refine wpListIn_next_ranges _ rfl _ rfl 27 keyed ptrE kv (fun p : Option Addr => Value.pointer p) (fun key l hk => by obtain ⟨k, h, _⟩ := keyOf_inv hk; exact ⟨k, h⟩) (fun v y hv => by cases v <;> simp [ptrE] at hv; exact ⟨_, rfl⟩) b W.heap.size nn _ _ _ rfl hrg ?_ ?_)
      | gi_in)
    · intro hc0 hl0
      have HE : Hid (KeysAre pm ss) := Lib.hid ⟨HC.out.1, fun k => by
        constructor
        · intro h
          have hk := HC.out.2.1 k h
          exact ⟨((HC.out.2.2 k hk).1 h).1, hk⟩
        · rintro ⟨h1, hk⟩
          exact (HC.out.2.2 k hk).2 ⟨h1, hl0 _⟩⟩
      gi_wp2
      go_end0
      exact ⟨⟨_, rfl⟩, ss, HE.out, HJs.out⟩
    · intro x c kl0 yd yp w2 cnt2 hkey hlk hv hat hrg2 hlt hg2 hs2 hen
      obtain ⟨hok, rfl, px, hpx, rfl⟩ := entry_came HD.out hkey hv hat
      have HJ2 : Hid (J ss w2) := Lib.hid (hJ ss wr w2 (some W.heap.size) HJs.out hg2 (fun r e => by cases e; exact ⟨Nat.le_refl _, hrg.iter_walk⟩))
      obtain ⟨hC2, _⟩ := Coll.step HD.out HC.out hok hlk hat
      have HC2 := Lib.hid hC2
      have HJ3 : Hid (J ss (w2.alloc (.cells #[.int .i64 x.a, .int .i64 x.b, .int .i64 x.c, .int .i64 x.d] 27))) := Lib.hid (hJ ss w2 _ none HJ2.out (World.grownBy_alloc _ _ _) (fun r e => by cases e))
      have hrg3 : (w2.alloc (.cells #[.int .i64 x.a, .int .i64 x.b, .int .i64 x.c, .int .i64 x.d] 27)).ranges Try.prog 27 ptrE b W.heap.size nn D0 (fun z => left z && !z.sameKey (kl x)) cnt2 := hrg2.alloc _
      obtain ⟨fn, tmps, assign, body, hy, hR⟩ := hY ss x _ HJ3.out (by omega)
      have hws2 : W.heap.size ≤ w2.heap.size := by omega
      have HRG3 := Lib.hid hrg3
      have HLT : Hid (cnt2 < cnt) := Lib.hid hlt
      clear hs2 hC2 hv hat hkey hg2 hrg3 hlt
      unfold kv at hy hen
      gi_wp2
      refine hR.mono ?_
      rintro e W3 ⟨rfl, hJ3, hk3⟩
      have HJ4 := Lib.hid hJ3
      have hrg4 := HRG3.out.of_walks hk3
      have hsz3 : W.heap.size ≤ W3.heap.size := by have := hk3.size; simp at this; omega
      clear hk3 hJ3
      gi_wp2
      go_roundw
      case rel => exact ⟨_, cnt2, ss ++ [x], hrg4, by have := HLT.out; simp; omega, HC2, HJ4, hsz3⟩
      case measure => rw [hrg4.left_eq, hrg.left_eq]; exact HLT.out

/-- 'maps.Keys(m)' hands back an iterator over the map's keys. -/
theorem keys_gives (F : Fence) (n : Nat) (h64 : F.fn 64) (hro : F.round = none) (hn : 1 ≤ n) (Bm b nn : Nat) (D0 : DataW Value) (pm : K4 → Option Nat) (hD : PD D0 pm nn) (w : World) (hBm : Bm < w.heap.size)
    (hm : w.cell? ⟨Bm, 0, none⟩ = some (.map (some b))) (hown : w.ownsMap Try.prog 27 ptrE b nn D0) :
    SeqGives F n Try.prog 64 #[.pointer (some ⟨Bm, 0, none⟩)] kv (fun ss => KeysAre pm ss) nn w := fun l J W hW hJ hY h0 => by
  have hown' : W.ownsMap Try.prog 27 ptrE b nn D0 := by
    have hbl := hown.lt
    obtain ⟨es, clock, hb, Ft, hs, hD⟩ := hown
    exact ⟨es, clock, (hW.block b hbl).trans hb, Ft, hs, hD⟩
  exact keys1_in F n h64 hro hn l Bm b nn D0 pm hD J hY W hJ ((hW.cell (p := ⟨Bm, 0, none⟩) hBm).trans hm) hown' h0

/-! ### 'slices.AppendSeq(nil, seq)' -/
theorem info_key : (Try.prog.info? 27).map (fun i => (i.zero, i.size, i.bytes)) = some (some (.agg #[.int .i64 0, .int .i64 0, .int .i64 0, .int .i64 0]), 4, 32) := by kernel_rfl
def apAssign : Code := (Code.region 2 #[{ dst := some 5, op := Op.alloc 27, type := 0, pos := "iter.go:51", after := #[], guard := none }, { dst := none, op := Op.store 27 (Operand.tmp 5) (Operand.tmp 7), type := 0, pos := "iter.go:51", after := #[{ on := 0, ground := Ground.data }, { on := 0, ground := Ground.phase }], guard := none }] false)
def apBody : Code := (Code.block 1 (Code.region 3 #[{ dst := some 8, op := Op.load 55 (Operand.tmp 2), type := 55, pos := "iter.go:52", after := #[], guard := none }, { dst := some 9, op := Op.load 27 (Operand.tmp 5), type := 27, pos := "iter.go:52", after := #[], guard := none }, { dst := some 10, op := Op.buildSlice 55 1 #[(0, Operand.tmp 9)], type := 55, pos := "iter.go:52", after := #[{ on := 1, ground := Ground.data }], guard := none }, { dst := some 11, op := Op.call { callee := Callee.builtin Builtin.append, args := #[Operand.tmp 8, Operand.tmp 10], argTypes := #[55, 55] }, type := 55, pos := "iter.go:52", after := #[{ on := 0, ground := Ground.data }, { on := 2, ground := Ground.data }], guard := none }, { dst := none, op := Op.store 55 (Operand.tmp 2) (Operand.tmp 11), type := 0, pos := "iter.go:52", after := #[{ on := 3, ground := Ground.data }, { on := 3, ground := Ground.chain }, { on := 0, ground := Ground.phase }, { on := 1, ground := Ground.phase }, { on := 2, ground := Ground.phase }, { on := 3, ground := Ground.phase }], guard := none }] false))
/-- The loop's record. -/
def apRec (fn : FuncId) (sv : Value) (Bs D : Nat) (st : LoopState) (pend : Option Code) : Loop :=
  { state := st, pending := pend, fn, tmps := #[.slice none 0 0, sv, .pointer (some ⟨Bs, 0, none⟩), undef, .slice none 0 0, undef, sv, undef, undef, undef, undef, undef, undef], params := #[7], assign := apAssign, body := apBody, defers := D }
/-- Between two rounds. -/
structure ApAt (w0 : World) (fn : FuncId) (sv : Value) (Bs l D : Nat) (ss : List K4) (W : World) : Prop where
  box : ∃ v, W.heap[Bs]? = some (.cells #[v] 55 (0, 0)) ∧ W.ownsRow w0.heap.size 27 4 v ss.length (ss.flatMap kcells)
  L : W.heap[l]? = some (.loop (apRec fn sv Bs D .ready none))
  K : W.heap[D]? = some (.deferred (some []))
  below : Below w0.heap.size w0 W
theorem ap_abides (w0 : World) (fn : FuncId) (sv : Value) (Bs l D B : Nat) (hB : w0.heap.size ≤ B) : AbidesFrom B (ApAt w0 fn sv Bs l D) := fun s W W' row h hg hrow => by
  have hrow' : ∀ r, row = some r → ∃ o : Obj, W.heap[r]? = some o ∧ o.isWalk = true := fun r e => (hrow r e).2
  obtain ⟨v, hv, hr⟩ := h.box
  exact ⟨⟨v, (grownBy_keeps hg hrow' hv rfl).trans hv, ownsRow_abides_a hr hg hrow'⟩, (grownBy_keeps hg hrow' h.L rfl).trans h.L, (grownBy_keeps hg hrow' h.K rfl).trans h.K,
    h.below.grown hg h.below.size (fun k e => Nat.le_trans hB (hrow k e).1)⟩

set_option maxRecDepth 100000 in
set_option maxHeartbeats 2000000 in
theorem apYield (F : Fence) (m : Nat) (w0 : World) (fn : FuncId) (hfn : F.fn fn) (sv : Value) (Bs l D : Nat) (hBl : Bs ≠ l) (hDl : D ≠ l) (hDB : D ≠ Bs) (h0B : w0.heap.size ≤ Bs) (h0l : w0.heap.size ≤ l)
    (N : Nat) (hN : N ≤ 1000000) (ss : List K4) (x : K4) (W : World) (h : ApAt w0 fn sv Bs l D ss W) (hlen : ss.length < N) :
    YieldAt F m Try.prog l #[kv x] W fun e W' => e = .returned (.bool true) ∧ ApAt w0 fn sv Bs l D (ss ++ [x]) W' ∧ KeepsWalks W W' := by
  have hne : (55 : TypeId) ≠ 27 := by decide
  obtain ⟨i0, hi, hz0, hz1, hz2⟩ := info_parts info_key
  obtain ⟨v, hv, hrow⟩ := h.box
  refine ⟨fn, #[.slice none 0 0, sv, .pointer (some ⟨Bs, 0, none⟩), undef, .slice none 0 0, undef, sv, kv x, undef, undef, undef, undef, undef], apAssign, apBody, by simpa [apRec] using run_yield (P := Try.prog) (args := #[kv x]) h.L rfl, roundIn_of_wpIn hfn ?_⟩
  have hl : l < W.heap.size := (Array.getElem?_eq_some_iff.1 h.L).1
  have hBlt : Bs < W.heap.size := (Array.getElem?_eq_some_iff.1 hv).1
  have hDlt : D < W.heap.size := (Array.getElem?_eq_some_iff.1 h.K).1
  obtain ⟨W1, hW1⟩ : ∃ W1, W.alloc (Obj.cells #[Value.int IntKind.i64 x.a, Value.int IntKind.i64 x.b, Value.int IntKind.i64 x.c, Value.int IntKind.i64 x.d] 27) = W1 := ⟨_, rfl⟩
  have hK1x : KeyAt W1 W.heap.size x := by rw [← hW1]; exact KeyAt.new W x
  have hbW : Below W.heap.size W W1 := by rw [← hW1]; exact (Below.refl _ _).alloc (Nat.le_refl _) _
  have hs1 : W1.heap.size = W.heap.size + 1 := by rw [← hW1]; simp
  have hk1 : KeepsWalks W W1 := by rw [← hW1]; exact KeepsWalks.alloc _ _
  have hrow1 : W1.ownsRow w0.heap.size 27 4 v ss.length (ss.flatMap kcells) := by rw [← hW1]; exact hrow.alloc _
  have hv1 : W1.heap[Bs]? = some (.cells #[v] 55 (0, 0)) := (hbW.block Bs hBlt).trans hv
  have hL1 : W1.heap[l]? = some (.loop (apRec fn sv Bs D .ready none)) := (hbW.block l hl).trans h.L
  have hKD1 : W1.heap[D]? = some (.deferred (some [])) := (hbW.block D hDlt).trans h.K
  have hb1 : Below w0.heap.size w0 W1 := h.below.trans (hbW.mono h.below.size)
  have hbr := run_beginRound (P := Try.prog) hL1 rfl
  obtain ⟨W2, hW2⟩ : ∃ W2, W1.putObj l (.loop { apRec fn sv Bs D .ready none with state := .busy }) = W2 := ⟨_, rfl⟩
  rw [hW2] at hbr
  have hg2 : W1.grownBy W2 (some l) := by rw [← hW2]; exact grownBy_putObj_a _ _ _
  have hk2 : KeepsWalks W W2 := hk1.trans (by rw [← hW2]; exact KeepsWalks.putObj _ hL1 rfl)
  have hs2 : W2.heap.size = W.heap.size + 1 := by rw [← hW2]; simp; omega
  have hv2 : W2.heap[Bs]? = some (.cells #[v] 55 (0, 0)) := by rw [← hW2]; exact (World.putObj_heap_other hBl).trans hv1
  have hK2 : W2.heap[D]? = some (.deferred (some [])) := by rw [← hW2]; exact (World.putObj_heap_other hDl).trans hKD1
  have hKx : KeyAt W2 W.heap.size x := by rw [← hW2]; exact (World.putObj_heap_other (by omega)).trans hK1x
  have hL2 : W2.heap[l]? = some (.loop { apRec fn sv Bs D .ready none with state := .busy }) := by rw [← hW2]; exact World.putObj_heap_same (by omega)
  have hrow2 : W2.ownsRow w0.heap.size 27 4 v ss.length (ss.flatMap kcells) := hrow1.kept hg2 (ownsRow_ne_a hrow1 hL1 (fun cur e => by cases e))
  have hb2 : Below w0.heap.size w0 W2 := hb1.grown hg2 hb1.size (fun k e => by cases e; exact h0l)
  obtain ⟨hc2, hf2⟩ := cell_of_box_a hv2
  obtain ⟨k0, k1, k2, k3⟩ := hKx.cells
  have hBlt2 : Bs < W2.heap.size := (Array.getElem?_eq_some_iff.1 hv2).1
  have hl2 : l < W2.heap.size := (Array.getElem?_eq_some_iff.1 hL2).1
  have hDlt2 : D < W2.heap.size := (Array.getElem?_eq_some_iff.1 hK2).1
  have ne_of : ∀ (j : Nat) (o : Obj), W2.heap[j]? = some o → (∀ cur, o ≠ .cells cur 27 (0, 0)) → some j ≠ v.ownBlock := fun j o hj hno => by
    rcases ownsRow_ne_a hrow2 hj hno with e | e
    · rw [e]; simp
    · exact fun e' => e e'.symm
  have HNE := Lib.hid ne_of
  have HK2 := Lib.hid hk2
  have HBR := Lib.hid hbr
  clear hW2 hg2 hk2 hv h hK1x hbW hk1 hrow1 hv1 hL1 hKD1 hb1 hbr ne_of hrow
  unfold apAssign kv
  gi_wp2_with gi_round_op_a
  refine ⟨W2, HBR.out, ?_⟩
  have HS2 := Lib.hid hs2
  clear hW1 HBR hs2 hs1
  unfold apBody
  have HROW := Lib.hid hrow2
  have HV2 := Lib.hid hv2
  have HL2 := Lib.hid hL2
  have HKK := Lib.hid hK2
  have HB2 := Lib.hid hb2
  have HKX := Lib.hid hKx
  clear hrow2 hv2 hL2 hK2 hb2 hKx
  gi_wp2_with (first
    | (gi_at_builtin; refine wpListIn_append_own _ rfl _ _ 55 rfl w0.heap.size 27 i0 _ 4 32 Try.underlying55 hi hz0 hz1 hz2 rfl (by decide) v ss.length (ss.flatMap kcells) rfl (HROW.out.alloc _) ⟨W2.heap.size, 0, none⟩ 1 1 (kcells x) rfl rfl
        (fun j u hj => by
          have e : (⟨W2.heap.size, 0, .none⟩ : Addr).add j = ⟨W2.heap.size, j, .none⟩ := by unfold Addr.add; split <;> simp_all
          rw [e]
          exact cell_of_block (KeyAt.new W2 x) (by simpa [kcells] using hj))
        (fun u hu => by
          simp only [kcells, List.mem_cons, List.not_mem_nil, or_false] at hu
          rcases hu with rfl | rfl | rfl | rfl <;> rfl) (by unfold maxLen; omega) (by omega) (by have := HB2.out.size; simp; omega) ?_; intro v' w3 hown' hg3 hnil3
       have HG3 := Lib.hid hg3
       have HO3 := Lib.hid hown'
       have hv3 : w3.heap[Bs]? = some (.cells #[v] 55 (0, 0)) := (hg3.block Bs (by simp; omega) (HNE.out Bs _ HV2.out (fun cur e => by cases e))).trans ((Below.heap_alloc _ _ Bs hBlt2).trans HV2.out)
       obtain ⟨hc3, hf3⟩ := cell_of_box_a hv3
       have HV3 := Lib.hid hv3
       obtain ⟨g', cap', rfl⟩ : ∃ g' cap', v' = .slice (some ⟨g', 0, none⟩) (ss.length + 1) cap' := by
         rcases hown'.2 with ⟨_, h0⟩ | ⟨g', cap', cur', h', _⟩
         · exact absurd h0 (by omega)
         · exact ⟨g', cap', h'⟩
       clear hg3 hown' hnil3 hv3
       go_frame)
    | gi_round_op_a)
  have hg3' := HG3.out
  have hbl2 : Below W2.heap.size W2 (W2.alloc (.cells #[.int .i64 x.a, .int .i64 x.b, .int .i64 x.c, .int .i64 x.d] 27)) := (Below.refl _ _).alloc (Nat.le_refl _) _
  have hL3 : w3.heap[l]? = some (.loop { apRec fn sv Bs D .ready none with state := .busy }) := (hg3'.block l (by simp; omega) (HNE.out l _ HL2.out (fun cur e => by cases e))).trans ((hbl2.block l hl2).trans HL2.out)
  have hK3 : w3.heap[D]? = some (.deferred (some [])) := (hg3'.block D (by simp; omega) (HNE.out D _ HKK.out (fun cur e => by cases e))).trans ((hbl2.block D hDlt2).trans HKK.out)
  obtain ⟨w4, hw4⟩ : ∃ w4, w3.setCell ⟨Bs, 0, none⟩ (.slice (some ⟨g', 0, none⟩) (ss.length + 1) cap') = w4 := ⟨_, rfl⟩
  rw [hw4]
  have hg4 : w3.grownBy w4 (some Bs) := by rw [← hw4]; exact grownBy_setCell0_a _ _ _
  have hv4 : w4.heap[Bs]? = some (.cells #[.slice (some ⟨g', 0, none⟩) (ss.length + 1) cap'] 55 (0, 0)) := by rw [← hw4]; exact heap_setCell_box_a _ HV3.out
  have hL4 : w4.heap[l]? = some (.loop { apRec fn sv Bs D .ready none with state := .busy }) := (hg4.block l (Array.getElem?_eq_some_iff.1 hL3).1 (fun e => hBl (by cases e; rfl))).trans hL3
  have hK4 : w4.heap[D]? = some (.deferred (some [])) := (hg4.block D (Array.getElem?_eq_some_iff.1 hK3).1 (fun e => hDB (by cases e; rfl))).trans hK3
  have hrow4 := HO3.out.kept hg4 (ownsRow_ne_a HO3.out HV3.out (fun cur e => by cases e))
  have hl4 : l < w4.heap.size := (Array.getElem?_eq_some_iff.1 hL4).1
  have hb3 : Below w0.heap.size w0 w3 := (HB2.out.alloc HB2.out.size _).grown hg3' (by have := HB2.out.size; simp; omega) (fun k e => (HROW.out.lt k e).1)
  have hb4 : Below w0.heap.size w0 w4 := hb3.grown hg4 hb3.size (fun k e => by cases e; exact h0B)
  have hk4 : KeepsWalks W w4 := ((HK2.out.trans (KeepsWalks.alloc _ _)).trans (KeepsWalks.of_grownBy hg3' (ownsRow_not_walk_a (HROW.out.alloc _)))).trans (by rw [← hw4]; exact KeepsWalks.setCell _ _ _)
  clear hw4
  refine ⟨_, _, run_endRound none hL4, rfl, ⟨⟨_, (World.putObj_heap_other hBl).trans hv4, ?_⟩, World.putObj_heap_same hl4, (World.putObj_heap_other hDl).trans hK4, hb4.grown (grownBy_putObj_a _ _ _) hb4.size (fun k e => by cases e; exact h0l)⟩, hk4.trans (KeepsWalks.putObj _ hL4 rfl)⟩
  have := hrow4.kept (grownBy_putObj_a w4 l (.loop { { apRec fn sv Bs D .ready none with state := .busy } with state := if (none : Option Code).isNone then .ready else .done, pending := none })) (ownsRow_ne_a hrow4 hL4 (fun cur e => by cases e))
  simpa using this

set_option maxRecDepth 100000 in
set_option maxHeartbeats 2000000 in
theorem appendSeq_in (F : Fence) (n : Nat) (h85 : F.fn 85) (hro : F.round = none) (hn : 2 ≤ n) (g : Nat) (lb : Array Value) (hFg : F.fn g) (eg : ∀ args w, (callFunc g args).run Try.prog w = .ok (.enter g args) w)
    (S : List K4 → Prop) (N : Nat) (hN : N ≤ 1000000) (w : World) (hseq : SeqGives F (n - 1) Try.prog g lb kv S N w) :
    CallsIn F n Try.prog 85 #[.slice none 0 0, .func (.func g) #[] lb] w fun e w' => ∃ (v : Value) (ss : List K4), e = .returned v ∧ S ss ∧ w'.ownsRow w.heap.size 27 4 v ss.length (ss.flatMap kcells) ∧ Below w.heap.size w w' := by
  have h1 : 1 ≤ n := by omega
  refine callsIn_of_wp_marks Try.func85 rfl h85 ?_ hro
  simp only [Try.ntmps85, List.size_toArray, List.length_cons, List.length_nil, Nat.reduceAdd, Nat.reduceSub, Array.replicate_succ, Array.replicate_zero, List.push_toArray, List.append_toArray, List.nil_append, List.cons_append]
  gi_wp2
  refine wpIn_rangeFunc ?_
  intro fn hfn
  rw [hro]
  obtain ⟨W0, hW0⟩ : ∃ W0, w.alloc (.cells #[.slice none 0 0] 55) = W0 := ⟨_, rfl⟩
  have hs0 : W0.heap.size = w.heap.size + 1 := by rw [← hW0]; simp
  have hv0 : W0.heap[w.heap.size]? = some (.cells #[.slice none 0 0] 55 (0, 0)) := by rw [← hW0]; exact World.alloc_heap_new w _
  have hb0 : Below w.heap.size w W0 := by rw [← hW0]; exact (Below.refl _ w).alloc (Nat.le_refl _) _
  rw [hW0]
  obtain ⟨W1, hW1⟩ : ∃ W1, (W0.alloc (.deferred (some []))).alloc (.loop (apRec fn (.func (.func g) #[] lb) w.heap.size W0.heap.size .ready none)) = W1 := ⟨_, rfl⟩
  have hold : ∀ k, k < W0.heap.size → W1.heap[k]? = W0.heap[k]? := fun k hk => by
    rw [← hW1]; exact (Below.heap_alloc _ _ k (by simp; omega)).trans (Below.heap_alloc _ _ k hk)
  have hb1 : Below w.heap.size w W1 := by rw [← hW1]; exact (hb0.alloc hb0.size _).alloc (by have := hb0.size; simp; omega) _
  have hs1 : W1.heap.size = W0.heap.size + 2 := by rw [← hW1]; simp
  have hM : ApAt w fn (.func (.func g) #[] lb) w.heap.size (W0.heap.size + 1) W0.heap.size [] W1 :=
    ⟨⟨_, (hold w.heap.size (by omega)).trans hv0, ⟨rfl, .inl ⟨rfl, rfl⟩⟩⟩,
     by rw [← hW1]; have := World.alloc_heap_new (W0.alloc (.deferred (some []))) (.loop (apRec fn (.func (.func g) #[] lb) w.heap.size W0.heap.size .ready none)); rwa [World.size_alloc] at this,
     by rw [← hW1]; exact (Below.heap_alloc _ _ _ (by simp)).trans (World.alloc_heap_new W0 _), hb1⟩
  refine ⟨W0.heap.size + 1, [{ target := .collected W0.heap.size, args := #[] }], W1, { target := .fn (.func g) lb, args := #[.func (.yield (W0.heap.size + 1)) #[] #[]] }, W1, g,
    #[.func (.yield (W0.heap.size + 1)) #[] #[]] ++ lb, W1, ?_, ?_, ?_, ?_, fun _ => h1, ?_⟩
  · rw [← hW1]; exact run_enterLoop_outer _ _ _ _ _
  · simp [resolve, go_sem]
  · intro f' hf'; simp [Target.leads] at hf'; subst hf'; exact hFg
  · simp [invoke, go_sem, eg]
  · refine (hseq (W0.heap.size + 1) (ApAt w fn (.func (.func g) #[] lb) w.heap.size (W0.heap.size + 1) W0.heap.size) W1 hb1 (ap_abides _ _ _ _ _ _ _ hb1.size)
      (fun pre x W hJ hl => apYield F (n - 1 - 1) w fn hfn _ w.heap.size (W0.heap.size + 1) W0.heap.size (by omega) (by omega) (by omega) (Nat.le_refl _) (by omega) N hN pre x W hJ hl) hM).mono ?_
    rintro e W2 ⟨⟨v0, rfl⟩, ss, hS, h2⟩
    obtain ⟨v, hv, hrow⟩ := h2.box
    have hend := run_endLoop (P := Try.prog) h2.L (by simp [apRec])
    obtain ⟨W3, hW3⟩ : ∃ W3, W2.putObj (W0.heap.size + 1) (.loop { apRec fn (.func (.func g) #[] lb) w.heap.size W0.heap.size .ready none with state := .exhausted }) = W3 := ⟨_, rfl⟩
    rw [hW3] at hend
    have hg3 : W2.grownBy W3 (some (W0.heap.size + 1)) := by rw [← hW3]; exact grownBy_putObj_a _ _ _
    have hv3 : W3.heap[w.heap.size]? = some (.cells #[v] 55 (0, 0)) := by rw [← hW3]; exact (World.putObj_heap_other (by omega)).trans hv
    have hK3 : W3.heap[W0.heap.size]? = some (.deferred (some [])) := by rw [← hW3]; exact (World.putObj_heap_other (by omega)).trans h2.K
    have hrow3 := hrow.kept hg3 (ownsRow_ne_a hrow h2.L (fun cur e => by cases e))
    have hb3 : Below w.heap.size w W3 := h2.below.grown hg3 h2.below.size (fun k e => by cases e; omega)
    obtain ⟨hc3, hf3⟩ := cell_of_box_a hv3
    clear hW3
    refine ⟨none, W3, hend, ?_⟩
    gi_wp2
    rw [← hs0]
    refine ⟨by simp, .inl ⟨_, _, rfl, run_takeDeferred hK3, ?_⟩⟩
    exact ⟨_, results_tmp rfl _ _ _, v, ss, rfl, hS, hrow3.kept (grownBy_putObj_a _ _ _) (ownsRow_ne_a hrow3 hK3 (fun cur e => by cases e)), hb3.grown (grownBy_putObj_a _ _ _) hb3.size (fun k e => by cases e; omega)⟩

set_option maxHeartbeats 1000000 in
theorem collect_in (F : Fence) (n : Nat) (h63 : F.fn 63) (h85 : F.fn 85) (hro : F.round = none) (hn : 3 ≤ n) (g : Nat) (lb : Array Value) (hFg : F.fn g) (eg : ∀ args w, (callFunc g args).run Try.prog w = .ok (.enter g args) w)
    (S : List K4 → Prop) (N : Nat) (hN : N ≤ 1000000) (w : World) (hseq : SeqGives F (n - 1 - 1) Try.prog g lb kv S N w) :
    CallsIn F n Try.prog 63 #[.func (.func g) #[] lb] w fun e w' => ∃ (v : Value) (ss : List K4), e = .returned v ∧ S ss ∧ w'.ownsRow w.heap.size 27 4 v ss.length (ss.flatMap kcells) ∧ Below w.heap.size w w' := by
  have h1 : 1 ≤ n := by omega
  refine callsIn_of_wp Try.func63 rfl h63 ?_ hro
  simp only [Try.ntmps63, List.size_toArray, List.length_cons, List.length_nil, Nat.reduceAdd, Nat.reduceSub, Array.replicate_succ, Array.replicate_zero, List.push_toArray, List.append_toArray, List.nil_append, List.cons_append]
  gi_wp2_with fail
  refine (appendSeq_in F (n - 1) h85 hro (by omega) g lb hFg eg S N hN _ hseq).mono ?_
  rintro e w' ⟨v, ss, rfl, hS, hrow, hb⟩
  have HR := Lib.hid (And.intro hS (And.intro hrow hb))
  clear hS hrow hb
  gi_wp2_with fail
  go_ret
  exact ⟨v, ss, rfl, HR.out.1, HR.out.2.1, HR.out.2.2⟩

theorem collect_any (w : World) (Bm b nn : Nat) (D0 : DataW Value) (pm : K4 → Option Nat) (hD : PD D0 pm nn) (hN : nn ≤ 1000000) (hBm : Bm < w.heap.size) (hm : w.cell? ⟨Bm, 0, none⟩ = some (.map (some b))) (hown : w.ownsMap Try.prog 27 ptrE b nn D0) :
    Calls Try.prog 63 #[.func (.func 64) #[] #[.pointer (some ⟨Bm, 0, none⟩)]] w fun e w' =>
      ∃ (v : Value) (ss : List K4), e = .returned v ∧ KeysAre pm ss ∧ w'.ownsRow w.heap.size 27 4 v ss.length (ss.flatMap kcells) ∧ Below w.heap.size w w' := by
  have eg : ∀ args w, (callFunc 64 args).run Try.prog w = .ok (.enter 64 args) w := enters_of Try.func64 (by kernel_rfl) rfl
  refine calls_of_every_depth (L := [63, 85, 64]) (n := 5) fun D => ?_
  exact collect_in _ 5 (by simp [Fence.list]) (by simp [Fence.list]) rfl (by omega) _ _ (by simp [Fence.list]) eg (fun ss => KeysAre pm ss) nn hN w (keys_gives _ 3 (by simp [Fence.list]) rfl (by omega) Bm b nn D0 pm hD w hBm hm hown)
end Go.Proofs.Ytgjdabneodkmpaa
