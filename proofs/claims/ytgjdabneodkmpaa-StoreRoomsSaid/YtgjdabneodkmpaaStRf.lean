/- The document's own store, empty, of no room: what it answers. -/
import Derived.Test.YtgjdabneodkmpaaStTr
import Derived.Test.YtgjdabneodkmpaaStSe
import Derived.Test.YtgjdabneodkmpaaRec
import Derived.Maps.AppendAt
namespace Go.Proofs.Ytgjdabneodkmpaa
open Go.RowKit
set_option linter.unusedVariables false

def rcells (room : Int) : Array Value := #[.int .i64 room, .int .i64 0, .slice none 0 0, .bool false, .bool false, .int .i64 0, .int .i64 0, .slice none 0 0]
def RefAt (w : World) (x : Nat) (room : Int) : Prop := w.heap[x]? = some (.cells (rcells room) 88)
theorem RefAt.lt {w : World} {x : Nat} {room : Int} (h : RefAt w x room) : x < w.heap.size := (Array.getElem?_eq_some_iff.1 h).1
theorem RefAt.later {w w' : World} {x : Nat} {room : Int} (h : RefAt w x room) (hb : Below w.heap.size w w') : RefAt w' x room := by
  unfold RefAt at *; rw [hb.block x (Array.getElem?_eq_some_iff.1 h).1]; exact h
theorem RefAt.cells {w : World} {x : Nat} {room : Int} (h : RefAt w x room) : w.cell? ⟨x, 0, .none⟩ = some (.int .i64 room) ∧ w.cell? ⟨x, 1, .none⟩ = some (.int .i64 0) ∧ w.cell? ⟨x, 2, .none⟩ = some (.slice none 0 0) ∧ w.cell? ⟨x, 3, .none⟩ = some (.bool false) ∧ w.cell? ⟨x, 4, .none⟩ = some (.bool false) :=
  ⟨cell_of_block h rfl, cell_of_block h rfl, cell_of_block h rfl, cell_of_block h rfl, cell_of_block h rfl⟩
theorem rheld_any (n lo hi : Int) (w : World) :
    Calls Try.prog 46 #[.int .i64 n, .int .i64 lo, .int .i64 hi] w fun e w' => (∃ c, e = .returned (.int .i64 c) ∧ (n = 0 → lo = 0 → 0 ≤ hi → c = 0)) ∧ w = w' := by
  go_enter Try.func46, Try.ntmps46
  go_wp2
  all_goals (go_ret; refine ⟨⟨_, rfl, ?_⟩, rfl⟩; intros; omega)
theorem rright_any (k : K4) (w : World) :
    Calls Try.prog 68 #[kv k] w fun e w' => e = .returned (.bool (rightK k)) ∧ Below w.heap.size w w' := by
  go_enter Try.func68, Try.ntmps68
  unfold kv
  go_wp2_with fail
  all_goals
    go_ret
    refine ⟨?_, (Below.refl _ _).alloc (Nat.le_refl _) _⟩
    simp [rightK, *]
    try omega
theorem rnew_any (w : World) : Calls Try.prog 17 #[.int .i64 0] w fun e w' => e = .returned (.pointer (some ⟨w.heap.size, 0, .none⟩)) ∧ w' = w.alloc (.cells (rcells 0) 88) := by
  have HH : Hid (Calls Try.prog 46 #[.int .i64 0, .int .i64 0, .int .i64 1048576] w fun e w' => e = .returned (.int .i64 0) ∧ w = w') := Lib.hid ((rheld_any 0 0 1048576 w).mono fun e w' ⟨⟨c, h1, h2⟩, h3⟩ => ⟨by rw [h1, h2 rfl rfl (by omega)], h3⟩)
  go_enter Try.func17, Try.ntmps17
  go_wp2_with fail
  refine HH.out.mono ?_
  rintro e w' ⟨rfl, rfl⟩
  go_wp2_with fail
  go_ret
  exact ⟨rfl, rfl⟩
theorem rfind_any (w : World) (x : Nat) (room : Int) (h : RefAt w x room) (k : K4) :
    Calls Try.prog 75 #[.pointer (some ⟨x, 0, .none⟩), kv k] w fun e w' => e = .returned (.tuple #[.int .i64 0, .bool false]) ∧ Below w.heap.size w w' := by
  unfold kv
  obtain ⟨w1, hwe⟩ : ∃ w1, w.alloc (.cells #[.int .i64 k.a, .int .i64 k.b, .int .i64 k.c, .int .i64 k.d] 27) = w1 := ⟨_, rfl⟩
  have hb1 : Below w.heap.size w w1 := by rw [← hwe]; exact (Below.refl _ _).alloc (Nat.le_refl _) _
  obtain ⟨c0, c1, c2, c3, c4⟩ := (h.later hb1).cells
  clear h
  go_enter Try.func75, Try.ntmps75
  go_upto_region 1 with fail
  clear hwe
  go_wp2_with fail
  refine wp_loop_rounds 1 ?_
  rw [rounds_succ]
  go_wp2_with fail
  go_ret2
  exact ⟨rfl, hb1⟩
theorem rthings_any (w : World) (x : Nat) (room : Int) (h : RefAt w x room) :
    Calls Try.prog 70 #[.pointer (some ⟨x, 0, .none⟩)] w fun e w' => e = .returned (.int .i64 0) ∧ w = w' := by
  obtain ⟨c0, c1, c2, c3, c4⟩ := h.cells
  clear h
  go_enter Try.func70, Try.ntmps70
  go_wp2_with fail
  refine wp_loop_rounds 1 ?_
  rw [rounds_succ]
  go_wp2_with fail
  go_ret
  exact ⟨rfl, rfl⟩
theorem rburn_any (w : World) (x : Nat) (room : Int) (h : RefAt w x room) :
    Calls Try.prog 74 #[.pointer (some ⟨x, 0, .none⟩)] w fun e w' => e = .returned (.bool false) ∧ w = w' := by
  obtain ⟨c0, c1, c2, c3, c4⟩ := h.cells
  clear h
  go_enter Try.func74, Try.ntmps74
  go_wp2_with fail
  go_ret
  exact ⟨rfl, rfl⟩
theorem rbody_any (w : World) (x : Nat) (room : Int) (h : RefAt w x room) (k : K4) :
    Calls Try.prog 69 #[.pointer (some ⟨x, 0, .none⟩), kv k] w fun e w' => e = .returned (.agg #[.bool false, .slice none 0 0, .slice none 0 0]) ∧ Below w.heap.size w w' := by
  obtain ⟨w1, hwe⟩ : ∃ w1, w.alloc (.cells #[.int .i64 k.a, .int .i64 k.b, .int .i64 k.c, .int .i64 k.d] 27) = w1 := ⟨_, rfl⟩
  have hb1 : Below w.heap.size w w1 := by rw [← hwe]; exact (Below.refl _ _).alloc (Nat.le_refl _) _
  have hsz : w1.heap.size = w.heap.size + 1 := by rw [← hwe]; simp
  have hK : KeyAt w1 w.heap.size k := by rw [← hwe]; exact KeyAt.new w k
  obtain ⟨w2, hwe2⟩ : ∃ w2, w1.alloc (.cells #[.bool false, .slice none 0 0, .slice none 0 0] 111) = w2 := ⟨_, rfl⟩
  have hb2 : Below w1.heap.size w1 w2 := by rw [← hwe2]; exact (Below.refl _ _).alloc (Nat.le_refl _) _
  have hR2 : RecAt w2 w1.heap.size #[.bool false, .slice none 0 0, .slice none 0 0] 111 := by rw [← hwe2]; exact RecAt.new _ _ _
  rw [hsz] at hR2
  obtain ⟨k0, k1, k2, k3⟩ := (hK.later hb2).cells
  have HB := Lib.hid (hb1.trans (hb2.mono hb1.size))
  have HF := Lib.hid (rfind_any w2 x room ((h.later hb1).later hb2) k)
  have HR := Lib.hid hR2
  clear h hb1 hb2 hK hR2
  unfold kv at HF ⊢
  go_enter Try.func69, Try.ntmps69
  go_upto_region 1 with fail
  clear hwe hwe2 hsz
  go_wp2_with fail
  refine HF.out.mono ?_
  rintro e w3 ⟨rfl, hb3⟩
  have HR3 := Lib.hid (HR.out.later hb3)
  have HB3 := Lib.hid (HB.out.trans (hb3.mono HB.out.size))
  clear HF HR HB hb3 k0 k1 k2 k3
  go_wp2_with (refine wpList_rec rfl rfl (w.heap.size + 1) #[.bool false, .slice none 0 0, .slice none 0 0] #[.bool false, .slice none 0 0, .slice none 0 0] rfl rfl HR3.out rfl (by kernel_rfl) (by kernel_rfl) ?_; intro w4 r1 r2 r3 r4)
  refine bodyPost_ret (results_c rfl rfl r1 Try.underlying111 rfl (by kernel_rfl)) rfl ?_
  exact ⟨rfl, HB3.out.grown r4 HB3.out.size (fun y e => by cases e; omega)⟩
/-- A deed as the document's own store takes it. -/
def rdV (what n : Int) (s : ByteArray) (p : Value) : Value := .agg #[.int .i64 what, .int .i64 n, .string s, p]
set_option maxRecDepth 20000 in
theorem rdo_no (w : World) (x : Nat) (room : Int) (h : RefAt w x room) (k : K4) (hr : rightK k = true) (what n : Int) (s : ByteArray) (a : Option Addr) (m c : Nat) (h1 : (what == 1) = false) :
    Calls Try.prog 48 #[.pointer (some ⟨x, 0, .none⟩), kv k, rdV what n s (.slice a m c)] w fun e w' => e = .returned (.int .i64 4) ∧ Below w.heap.size w w' := by
  obtain ⟨w1, hwe⟩ : ∃ w1, w.alloc (.cells #[.int .i64 k.a, .int .i64 k.b, .int .i64 k.c, .int .i64 k.d] 27) = w1 := ⟨_, rfl⟩
  have hb1 : Below w.heap.size w w1 := by rw [← hwe]; exact (Below.refl _ _).alloc (Nat.le_refl _) _
  have hsz : w1.heap.size = w.heap.size + 1 := by rw [← hwe]; simp
  have hK : KeyAt w1 w.heap.size k := by rw [← hwe]; exact KeyAt.new w k
  obtain ⟨w2, hwe2⟩ : ∃ w2, w1.alloc (.cells #[.int .i64 what, .int .i64 n, .string s, .slice a m c] 94) = w2 := ⟨_, rfl⟩
  have hb2 : Below w1.heap.size w1 w2 := by rw [← hwe2]; exact (Below.refl _ _).alloc (Nat.le_refl _) _
  have hR2 : RecAt w2 w1.heap.size #[.int .i64 what, .int .i64 n, .string s, .slice a m c] 94 := by rw [← hwe2]; exact RecAt.new _ _ _
  rw [hsz] at hR2
  have HB := Lib.hid (hb1.trans (hb2.mono hb1.size))
  have HRF := Lib.hid ((h.later hb1).later hb2)
  have HK := Lib.hid (hK.later hb2)
  have HR := Lib.hid hR2
  have HRT := Lib.hid (rright_any k w2)
  rw [hr] at HRT
  obtain ⟨k0, k1, k2, k3⟩ := HK.out.cells
  obtain ⟨c0, c1, c2, c3, c4⟩ := HRF.out.cells
  clear h hb1 hb2 hK hR2 hr
  unfold kv at HRT
  unfold kv rdV
  go_enter Try.func48, Try.ntmps48
  go_upto_region 1 with fail
  clear hwe hwe2 hsz
  go_wp2_with fail
  refine HRT.out.mono ?_
  rintro e w3 ⟨rfl, hb3⟩
  have HB3 := Lib.hid (HB.out.trans (hb3.mono HB.out.size))
  have HRF3 := Lib.hid (HRF.out.later hb3)
  have HK3 := Lib.hid (HK.out.later hb3)
  have HR3 := Lib.hid (HR.out.later hb3)
  clear HRT HB HRF HK HR hb3 k0 k1 k2 k3 c0 c1 c2 c3 c4
  have HBD := Lib.hid (rbody_any w3 x room HRF3.out k)
  obtain ⟨k0, k1, k2, k3⟩ := HK3.out.cells
  unfold kv at HBD
  go_wp2_with fail
  refine HBD.out.mono ?_
  rintro e w4 ⟨rfl, hb4⟩
  have HB4 := Lib.hid (HB3.out.trans (hb4.mono HB3.out.size))
  have HR4 := Lib.hid (HR3.out.later hb4)
  clear HBD HB3 HRF3 HK3 HR3 hb4 k0 k1 k2 k3
  obtain ⟨w5, hwe5⟩ : ∃ w5, w4.alloc (.cells #[.bool false, .slice none 0 0, .slice none 0 0] 111) = w5 := ⟨_, rfl⟩
  have hb5 : Below w4.heap.size w4 w5 := by rw [← hwe5]; exact (Below.refl _ _).alloc (Nat.le_refl _) _
  have hB5 : RecAt w5 w4.heap.size #[.bool false, .slice none 0 0, .slice none 0 0] 111 := by rw [← hwe5]; exact RecAt.new _ _ _
  have HB5 := Lib.hid (HB4.out.trans (hb5.mono HB4.out.size))
  obtain ⟨z, hz⟩ : ∃ z, w4.heap.size = z := ⟨_, rfl⟩
  rw [hz] at hB5
  have HZ : Hid (w.heap.size ≤ z) := Lib.hid (by rw [← hz]; exact HB4.out.size)
  have HZ2 : Hid (w.heap.size + 1 ≠ z) := Lib.hid (by rw [← hz]; have := HR4.out.lt; omega)
  have HR5 := Lib.hid (HR4.out.later hb5)
  have HRB := Lib.hid hB5
  clear HR4 HB4 hb5 hB5
  go_upto_region 6 with (refine wpList_rec rfl rfl z #[.bool false, .slice none 0 0, .slice none 0 0] #[.bool false, .slice none 0 0, .slice none 0 0] rfl rfl HRB.out rfl (by kernel_rfl) (by kernel_rfl) ?_; intro w6 r1 r2 r3 r4)
  clear hwe5 hz
  have d0 : w6.cell? ⟨w.heap.size + 1, 0, .none⟩ = some (.int .i64 what) := (HR5.out.keep r3 HZ2.out).cell (i := 0) rfl
  have b0 : w6.cell? ⟨z, 0, .none⟩ = some (.bool false) := r1.cell (i := 0) rfl
  have HB6 := Lib.hid (HB5.out.grown r4 HB5.out.size (fun y e => by cases e; exact HZ.out))
  clear r1 r2 r3 r4
  go_wp2_with fail
  go_ret
  exact ⟨rfl, HB6.out⟩
/-- All blocks but one stay. -/
structure Bt (w w' : World) (x : Nat) : Prop where
  os : w'.os = w.os
  tape : w'.tape = w.tape
  output : w'.output = w.output
  size : w.heap.size ≤ w'.heap.size
  block : ∀ b, b < w.heap.size → b ≠ x → w'.heap[b]? = w.heap[b]?
theorem Bt.refl (w : World) (x : Nat) : Bt w w x := ⟨rfl, rfl, rfl, Nat.le_refl _, fun _ _ _ => rfl⟩
theorem Bt.trans {w w1 w2 : World} {x : Nat} (h : Bt w w1 x) (k : Bt w1 w2 x) : Bt w w2 x :=
  ⟨k.os.trans h.os, k.tape.trans h.tape, k.output.trans h.output, Nat.le_trans h.size k.size, fun b hb hx => (k.block b (Nat.lt_of_lt_of_le hb h.size) hx).trans (h.block b hb hx)⟩
theorem Bt.of_below {w w' : World} (h : Below w.heap.size w w') (x : Nat) : Bt w w' x := by
  have hf := Fr.of_below h (fun _ => .junk) (fun _ => False)
  exact ⟨hf.os, hf.tape, hf.output, hf.size, fun b hb _ => hf.block b hb (fun h => h)⟩
theorem info_thing : (Try.prog.info? 119).map (fun i => (i.zero, i.size, i.bytes)) = some (some (.agg #[.int .i64 0, .int .i64 0, .int .i64 0, .int .i64 0, .bool false, .slice none 0 0, .slice none 0 0, .slice none 0 0]), 8, 112) := by kernel_rfl
theorem info_rdeed : (Try.prog.info? 94).map (fun i => (i.zero, i.size, i.bytes)) = some (some (.agg #[.int .i64 0, .int .i64 0, .string ByteArray.empty, .slice none 0 0]), 4, 56) := by kernel_rfl
/-- A mark that no value bears: of what isn't there yet. -/
def nV : SV := ⟨fun _ _ => False, fun _ _ _ h _ => h⟩
/-- Marks that a heavy operation leaves alone: constants, those of which nobody asks any more, and those that aren't there yet. -/
def Calm2 (i : Nat) : Nat → List SV → List SV → Prop
  | _, [], _ => True
  | n, s :: r, s' :: r' => ((∃ c, s = cV c ∧ s' = cV c) ∨ s' = tV ∨ n = i ∨ s = nV) ∧ Calm2 i (n + 1) r r'
  | _, _ :: _, [] => False
theorem Calm2.all' {i : Nat} : ∀ {L L' : List SV} {n : Nat}, Calm2 i n L L' → ∀ w1 w2 k v0, n + k ≠ i → VL L k w1 v0 → VL L' k w2 v0
  | [], _, _, _, w1, w2, k, v0, _, h => by simp [VL] at h
  | s :: r, [], _, hc, _, _, _, _, _, _ => hc.elim
  | s :: r, s' :: r', n, hc, w1, w2, 0, v0, hne, h => by
    obtain ⟨h1, _⟩ := hc
    rcases h1 with ⟨c, rfl, rfl⟩ | rfl | h1 | rfl
    · exact h
    · exact trivial
    · exact absurd h1 hne
    · exact False.elim h
  | s :: r, s' :: r', n, hc, w1, w2, k + 1, v0, hne, h => by
    have := Calm2.all' hc.2 w1 w2 k v0 (by omega) (by simpa [VL] using h)
    simpa [VL] using this
theorem Calm2.all {i n : Nat} {L L' : List SV} (h : Calm2 i n L L') (hn : n = 0 := by rfl) : ∀ w1 w2 k v0, k ≠ i → VL L k w1 v0 → VL L' k w2 v0 := fun w1 w2 k v0 hk hv => by
  subst hn
  exact Calm2.all' h w1 w2 k v0 (by omega) hv
/-- A row of records in memory of one's own. -/
def owV (N : Nat) (e : TypeId) (size n : Nat) (xs : List Value) : SV := ⟨fun w v => w.ownsRow N e size v n xs ∧ ∃ a m c, v = .slice a m c, fun w w' v h hb => ⟨ownsRow_later h.1 hb, h.2⟩⟩
def nwV (ty : TypeId) (cs : Array Value) : SV := ⟨fun w v => ∃ z, v = .slice (some ⟨z, 0, .none⟩) 1 1 ∧ w.heap[z]? = some (.cells cs ty),
   fun w w' v ⟨z, h1, h2⟩ hb => ⟨z, h1, by rw [hb.block z (Array.getElem?_eq_some_iff.1 h2).1]; exact h2⟩⟩
theorem owV_new {N : Nat} {w1 : World} (h : N ≤ w1.heap.size) (e : TypeId) (size : Nat) : (owV N e size 0 []).p (w1.alloc (.cells #[] e)) (.slice (some ⟨w1.heap.size, 0, .none⟩) 0 0) :=
  ⟨⟨by simp, .inr ⟨w1.heap.size, 0, #[], rfl, h, (MapKept.heap_alloc w1 _).1, Nat.le_refl _, by unfold maxLen; omega, by simp, by simp⟩⟩, _, _, _, rfl⟩
def tcells (k : K4) : List Value := [.int .i64 k.a, .int .i64 k.b, .int .i64 k.c, .int .i64 k.d, .bool false, .slice none 0 0, .slice none 0 0, .slice none 0 0]
abbrev thV (N n : Nat) (xs : List Value) : SV := owV N 119 8 n xs
abbrev ntV (k : K4) : SV := nwV 119 (tcells k).toArray
theorem thV_none {N n : Nat} {xs : List Value} {w1 : World} {v : Value} (m : (thV N n xs).p w1 v) {ty : TypeId} : (Builtin.append_ #[86, 86] ty #[v, .slice none 0 0]).run Try.prog w1 = .ok v w1 := by
  obtain ⟨i0, hi, hz0, hz1, hz2⟩ := info_parts info_thing
  exact (run_append_owned_none (ht := Try.underlying86) (hi := hi) (hown := m.1)) ty
def RefV (w : World) (x : Nat) (room : Int) (v : Value) : Prop := w.heap[x]? = some (.cells #[.int .i64 room, .int .i64 0, v, .bool false, .bool false, .int .i64 0, .int .i64 0, .slice none 0 0] 88)
theorem RefV.later {w w' : World} {x : Nat} {room : Int} {v : Value} (h : RefV w x room v) (hb : Below w.heap.size w w') : RefV w' x room v := by
  unfold RefV at *; rw [hb.block x (Array.getElem?_eq_some_iff.1 h).1]; exact h
def jTh (w0 : World) (x : Nat) (room : Int) (k : K4) : Nat → World → Prop
  | 0, w => Below w0.heap.size w0 w
  | 1, w => Below w0.heap.size w0 w
  | _, w => Bt w0 w x ∧ ∃ v, RefV w x room v ∧ (owV w0.heap.size 119 8 1 (tcells k)).p w v
theorem jTh_st {w0 : World} {x : Nat} {room : Int} {k : K4} (ph : Nat) {w w' : World} (h : jTh w0 x room k ph w) (hb : Below w.heap.size w w') : jTh w0 x room k ph w' := by
  match ph, h with
  | 0, h => exact Below.trans h (hb.mono h.size)
  | 1, h => exact Below.trans h (hb.mono h.size)
  | n + 2, h =>
    obtain ⟨h1, v, h2, h3⟩ := h
    exact ⟨h1.trans (Bt.of_below hb x), v, h2.later hb, (owV _ _ _ _ _).st _ _ _ h3 hb⟩
theorem jTh_below {w0 w : World} {x : Nat} {room : Int} {k : K4} (ph : Nat) (hp : ph ≤ 1) (h : jTh w0 x room k ph w) : Below w0.heap.size w0 w := by
  match ph, hp, h with
  | 0, _, h => exact h
  | 1, _, h => exact h
theorem owV_one {w0 w1 : World} {k : K4} {v0 v1 : Value} (hb : Below w0.heap.size w0 w1) (m0 : (owV w0.heap.size 119 8 0 []).p w1 v0) (m1 : (nwV 119 (tcells k).toArray).p w1 v1) {ty : TypeId} :
    ∃ v' w', (Builtin.append_ #[86, 86] ty #[v0, v1]).run Try.prog w1 = .ok v' w' ∧ (owV w0.heap.size 119 8 1 (tcells k)).p w' v' ∧ Below w0.heap.size w0 w' := by
  obtain ⟨i0, hi, hz0, hz1, hz2⟩ := info_parts info_thing
  obtain ⟨z, rfl, hz⟩ := m1
  obtain ⟨v', w', hr, hown, hg, hnil, hat⟩ := run_append_own_at (P := Try.prog) w1 w0.heap.size 86 ty 119 i0 _ 8 112 Try.underlying86 hi hz0 hz1 hz2 rfl (by decide) v0 0 _ m0.1 ⟨z, 0, .none⟩ 1 1 (tcells k) rfl
    (fun j u hj => by
      have e : (⟨z, 0, .none⟩ : Addr).add j = ⟨z, j, .none⟩ := by unfold Addr.add; split <;> simp_all
      rw [e]
      exact cell_of_block hz (by simpa using hj))
    (fun u hu => by
      simp only [tcells, List.mem_cons, List.not_mem_nil, or_false] at hu
      rcases hu with rfl | rfl | rfl | rfl | rfl | rfl | rfl | rfl <;> rfl) (by unfold maxLen; omega) (by omega) hb.size
  refine ⟨v', w', hr, ⟨by simpa using hown, ?_⟩, hb.grown hg hb.size (fun y hy => (World.ownsRow.lt m0.1 y hy).1)⟩
  rcases hown.2 with ⟨e, _⟩ | ⟨g, cap, cur, e, _⟩
  · exact ⟨_, _, _, e⟩
  · exact ⟨_, _, _, e⟩
theorem jTh_set {w0 w1 : World} {x : Nat} {room : Int} {k : K4} {v : Value} (hb : Below w0.heap.size w0 w1) (h : RefAt w0 x room) (m : (owV w0.heap.size 119 8 1 (tcells k)).p w1 v) : jTh w0 x room k 2 (w1.setCell ⟨x, 2, .none⟩ v) := by
  have hx := h.lt
  have h1 := h.later hb
  refine ⟨(Bt.of_below hb x).trans ?_, v, ?_, ?_⟩
  · refine ⟨?_, ?_, ?_, ?_, fun b hb2 hne => heap_setCell_other w1 _ _ _ hne⟩
    all_goals (unfold World.setCell; simp)
  · have := heap_setCell_same w1 x 2 _ _ v h1
    unfold RefV
    rw [this]; simp [rcells]
  · refine ⟨⟨m.1.1, ?_⟩, m.2⟩
    rcases m.1.2 with hv | ⟨g, cap, cur, hv, hb2, hg, rest⟩
    · exact .inl hv
    · exact .inr ⟨g, cap, cur, hv, hb2, by rw [heap_setCell_other w1 _ _ _ (by show g ≠ x; omega)]; exact hg, rest⟩
abbrev rdRow (N n : Nat) (xs : List Value) : SV := owV N 94 4 n xs
def rdcells (y : Nat) : List Value := [.int .i64 1, .int .i64 0, .string ByteArray.empty, .slice (some ⟨y, 0, none⟩) 0 0]
abbrev rdNew (y : Nat) : SV := nwV 94 (rdcells y).toArray
theorem rdRow_none {N n : Nat} {xs : List Value} {w1 : World} {v : Value} (m : (rdRow N n xs).p w1 v) {ty : TypeId} : (Builtin.append_ #[117, 117] ty #[v, .slice none 0 0]).run Try.prog w1 = .ok v w1 := by
  obtain ⟨i0, hi, hz0, hz1, hz2⟩ := info_parts info_rdeed
  exact (run_append_owned_none (ht := Try.underlying117) (hi := hi) (hown := m.1)) ty
def jUh (w0 : World) (bk : Nat) : Nat → World → Prop
  | 0, w => Below w0.heap.size w0 w
  | 1, w => Below w0.heap.size w0 w
  | _, w => Bt w0 w bk
theorem jUh_st {w0 : World} {bk : Nat} (ph : Nat) {w w' : World} (h : jUh w0 bk ph w) (hb : Below w.heap.size w w') : jUh w0 bk ph w' := by
  match ph, h with
  | 0, h => exact Below.trans h (hb.mono h.size)
  | 1, h => exact Below.trans h (hb.mono h.size)
  | n + 2, h => exact Bt.trans h (Bt.of_below hb bk)
theorem jUh_below {w0 w : World} {bk : Nat} (ph : Nat) (hp : ph ≤ 1) (h : jUh w0 bk ph w) : Below w0.heap.size w0 w := by
  match ph, hp, h with
  | 0, _, h => exact h
  | 1, _, h => exact h
theorem Bt.set (w : World) (x i : Nat) (v : Value) : Bt w (w.setCell ⟨x, i, .none⟩ v) x := by
  refine ⟨?_, ?_, ?_, ?_, fun b hb2 hne => heap_setCell_other w _ _ _ hne⟩
  all_goals (unfold World.setCell; simp)
theorem Bt.trans' {w w1 w2 : World} {x bk : Nat} (h : Bt w w1 x) (k : Bt w1 w2 bk) (hb : w.heap.size ≤ bk) : Bt w w2 x :=
  ⟨k.os.trans h.os, k.tape.trans h.tape, k.output.trans h.output, Nat.le_trans h.size k.size, fun b hlt hx => (k.block b (Nat.lt_of_lt_of_le hlt h.size) (by omega)).trans (h.block b hlt hx)⟩
theorem jUh_set {w0 w1 : World} {bk : Nat} (hb : Below w0.heap.size w0 w1) (v : Value) : jUh w0 bk 2 (w1.setCell ⟨bk, 7, .none⟩ v) := (Bt.of_below hb bk).trans (Bt.set _ _ _ _)
theorem rdRow_one {w0 w1 : World} {y : Nat} {v0 v1 : Value} (hb : Below w0.heap.size w0 w1) (m0 : (rdRow w0.heap.size 0 []).p w1 v0) (m1 : (rdNew y).p w1 v1) {ty : TypeId} :
    ∃ v' w', (Builtin.append_ #[117, 117] ty #[v0, v1]).run Try.prog w1 = .ok v' w' ∧ (rdRow w0.heap.size 1 (rdcells y)).p w' v' ∧ Below w0.heap.size w0 w' := by
  obtain ⟨i0, hi, hz0, hz1, hz2⟩ := info_parts info_rdeed
  obtain ⟨z, rfl, hz⟩ := m1
  obtain ⟨v', w', hr, hown, hg, hnil, hat⟩ := run_append_own_at (P := Try.prog) w1 w0.heap.size 117 ty 94 i0 _ 4 56 Try.underlying117 hi hz0 hz1 hz2 rfl (by decide) v0 0 _ m0.1 ⟨z, 0, .none⟩ 1 1 (rdcells y) rfl
    (fun j u hj => by
      have e : (⟨z, 0, .none⟩ : Addr).add j = ⟨z, j, .none⟩ := by unfold Addr.add; split <;> simp_all
      rw [e]
      exact cell_of_block hz (by simpa using hj))
    (fun u hu => by
      simp only [rdcells, List.mem_cons, List.not_mem_nil, or_false] at hu
      rcases hu with rfl | rfl | rfl | rfl <;> rfl) (by unfold maxLen; omega) (by omega) hb.size
  refine ⟨v', w', hr, ⟨by simpa using hown, ?_⟩, hb.grown hg hb.size (fun y hy => (World.ownsRow.lt m0.1 y hy).1)⟩
  rcases hown.2 with ⟨e, _⟩ | ⟨g, cap, cur, e, _⟩
  · exact ⟨_, _, _, e⟩
  · exact ⟨_, _, _, e⟩
set_option maxRecDepth 20000 in
theorem rdo_make (w : World) (x : Nat) (room : Int) (h : RefAt w x room) (k : K4) (hr : rightK k = true) :
    Calls Try.prog 48 #[.pointer (some ⟨x, 0, .none⟩), kv k, rdV 1 0 ByteArray.empty (.slice none 0 0)] w fun e w' => ∃ c, e = .returned (.int .i64 c) ∧ Bt w w' x := by
  obtain ⟨w1, hwe⟩ : ∃ w1, w.alloc (.cells #[.int .i64 k.a, .int .i64 k.b, .int .i64 k.c, .int .i64 k.d] 27) = w1 := ⟨_, rfl⟩
  have hb1 : Below w.heap.size w w1 := by rw [← hwe]; exact (Below.refl _ _).alloc (Nat.le_refl _) _
  have hsz : w1.heap.size = w.heap.size + 1 := by rw [← hwe]; simp
  have hK : KeyAt w1 w.heap.size k := by rw [← hwe]; exact KeyAt.new w k
  obtain ⟨w2, hwe2⟩ : ∃ w2, w1.alloc (.cells #[.int .i64 1, .int .i64 0, .string ByteArray.empty, .slice none 0 0] 94) = w2 := ⟨_, rfl⟩
  have hb2 : Below w1.heap.size w1 w2 := by rw [← hwe2]; exact (Below.refl _ _).alloc (Nat.le_refl _) _
  have hR2 : RecAt w2 w1.heap.size #[.int .i64 1, .int .i64 0, .string ByteArray.empty, .slice none 0 0] 94 := by rw [← hwe2]; exact RecAt.new _ _ _
  rw [hsz] at hR2
  have HB := Lib.hid (hb1.trans (hb2.mono hb1.size))
  have HRF := Lib.hid ((h.later hb1).later hb2)
  have HK := Lib.hid (hK.later hb2)
  have HR := Lib.hid hR2
  have HRT := Lib.hid (rright_any k w2)
  rw [hr] at HRT
  obtain ⟨k0, k1, k2, k3⟩ := HK.out.cells
  obtain ⟨c0, c1, c2, c3, c4⟩ := HRF.out.cells
  have HLX := Lib.hid h.lt
  clear h hb1 hb2 hK hR2 hr
  unfold kv at HRT
  unfold kv rdV
  go_enter Try.func48, Try.ntmps48
  go_upto_region 1 with fail
  clear hwe hwe2 hsz
  go_wp2_with fail
  refine HRT.out.mono ?_
  rintro e w3 ⟨rfl, hb3⟩
  have HB3 := Lib.hid (HB.out.trans (hb3.mono HB.out.size))
  have HRF3 := Lib.hid (HRF.out.later hb3)
  have HK3 := Lib.hid (HK.out.later hb3)
  have HR3 := Lib.hid (HR.out.later hb3)
  clear HRT HB HRF HK HR hb3 k0 k1 k2 k3 c0 c1 c2 c3 c4
  have HBD := Lib.hid (rbody_any w3 x room HRF3.out k)
  obtain ⟨k0, k1, k2, k3⟩ := HK3.out.cells
  unfold kv at HBD
  go_wp2_with fail
  refine HBD.out.mono ?_
  rintro e w4 ⟨rfl, hb4⟩
  have HB4 := Lib.hid (HB3.out.trans (hb4.mono HB3.out.size))
  have HR4 := Lib.hid (HR3.out.later hb4)
  have HK4 := Lib.hid (HK3.out.later hb4)
  have HRF4 := Lib.hid (HRF3.out.later hb4)
  clear HBD HB3 HRF3 HK3 HR3 hb4 k0 k1 k2 k3
  obtain ⟨w5, hwe5⟩ : ∃ w5, w4.alloc (.cells #[.bool false, .slice none 0 0, .slice none 0 0] 111) = w5 := ⟨_, rfl⟩
  have hb5 : Below w4.heap.size w4 w5 := by rw [← hwe5]; exact (Below.refl _ _).alloc (Nat.le_refl _) _
  have hB5 : RecAt w5 w4.heap.size #[.bool false, .slice none 0 0, .slice none 0 0] 111 := by rw [← hwe5]; exact RecAt.new _ _ _
  have HB5 := Lib.hid (HB4.out.trans (hb5.mono HB4.out.size))
  obtain ⟨z, hz⟩ : ∃ z, w4.heap.size = z := ⟨_, rfl⟩
  rw [hz] at hB5
  have HZ : Hid (w.heap.size ≤ z) := Lib.hid (by rw [← hz]; exact HB4.out.size)
  have HZ2 : Hid (w.heap.size + 1 ≠ z) := Lib.hid (by rw [← hz]; have := HR4.out.lt; omega)
  have HR5 := Lib.hid (HR4.out.later hb5)
  have HK5 := Lib.hid (HK4.out.later hb5)
  have HKZ : Hid (w.heap.size ≠ z) := Lib.hid (by rw [← hz]; have := HR4.out.lt; omega)
  have HXD : Hid (x ≠ w.heap.size + 1) := Lib.hid (by have := HLX.out; omega)
  have HXZ : Hid (x ≠ z) := Lib.hid (by rw [← hz]; have := HRF4.out.lt; omega)
  have HRB := Lib.hid hB5
  clear HR4 HB4 hB5
  have HRF5 := Lib.hid (HRF4.out.later hb5)
  go_upto_region 6 with (refine wpList_rec rfl rfl z #[.bool false, .slice none 0 0, .slice none 0 0] #[.bool false, .slice none 0 0, .slice none 0 0] rfl rfl HRB.out rfl (by kernel_rfl) (by kernel_rfl) ?_; intro w6 r1 r2 r3 r4)
  clear hwe5 hz
  have hne : x ≠ z := HXZ.out
  have HRF6 : Hid (RefAt w6 x room) := Lib.hid (by unfold RefAt; rw [r3 x hne]; exact HRF5.out)
  have HR6 := Lib.hid (HR5.out.keep r3 HZ2.out)
  have HK6 : Hid (KeyAt w6 w.heap.size k) := Lib.hid (by unfold KeyAt; rw [r3 _ HKZ.out]; exact HK5.out)
  have HB6 := Lib.hid (HB5.out.grown r4 HB5.out.size (fun y e => by cases e; exact HZ.out))
  have HBD6 := Lib.hid r1
  have d0 : w6.cell? ⟨w.heap.size + 1, 0, .none⟩ = some (.int .i64 1) := HR6.out.cell (i := 0) rfl
  have b0 : w6.cell? ⟨z, 0, .none⟩ = some (.bool false) := r1.cell (i := 0) rfl
  have HTH := Lib.hid (rthings_any w6 x room HRF6.out)
  clear r1 r2 r3 r4 HR5 HRB HB5 HRF5 HRF4 hne
  go_wp2_with fail
  refine HTH.out.mono ?_
  rintro e w7 ⟨rfl, rfl⟩
  clear HTH
  obtain ⟨w8, hwe8⟩ : ∃ w8, w6.alloc (.cells #[] 5) = w8 := ⟨_, rfl⟩
  have hb8 : Below w6.heap.size w6 w8 := by rw [← hwe8]; exact (Below.refl _ _).alloc (Nat.le_refl _) _
  have HR8 := Lib.hid (HR6.out.later hb8)
  have HK8 := Lib.hid (HK6.out.later hb8)
  have HRF8 := Lib.hid (HRF6.out.later hb8)
  have HB8 := Lib.hid (HB6.out.trans (hb8.mono HB6.out.size))
  have d3 : w8.cell? ⟨w.heap.size + 1, 3, .none⟩ = some (.slice none 0 0) := HR8.out.cell (i := 3) rfl
  have f3 : w8.frozen? ⟨w.heap.size + 1, 3, .none⟩ = false := HR8.out.frozen 3
  obtain ⟨y, hy⟩ : ∃ y, w6.heap.size = y := ⟨_, rfl⟩
  clear hb8 hb5
  go_upto_region 21 with fail
  clear d0 b0
  go_upto_region 22 with fail
  have hd8 := HR8.out.set 3 (.slice (some ⟨y, 0, none⟩) 0 0)
  obtain ⟨w9, hwe9⟩ : ∃ w9, w8.setCell ⟨w.heap.size + 1, 3, none⟩ (.slice (some ⟨y, 0, none⟩) 0 0) = w9 := ⟨_, rfl⟩
  rw [hwe9] at hd8 ⊢
  have g0 : w9.cell? ⟨w.heap.size + 1, 0, .none⟩ = some (.int .i64 1) := hd8.cell (i := 0) rfl
  have hr9 : ∀ b, b ≠ w.heap.size + 1 → w9.heap[b]? = w8.heap[b]? := fun b hb => by rw [← hwe9]; exact heap_setCell_other w8 _ _ _ hb
  have hxd : x ≠ w.heap.size + 1 := HXD.out
  have HRF9 : Hid (RefAt w9 x room) := Lib.hid (by unfold RefAt; rw [hr9 x hxd]; exact HRF8.out)
  have HR9 := Lib.hid hd8
  have HK9 : Hid (KeyAt w9 w.heap.size k) := Lib.hid (by unfold KeyAt; rw [hr9 _ (by omega)]; exact HK8.out)
  have HB9 : Hid (Below w.heap.size w w9) := Lib.hid (by
    have h3 := HB8.out
    rw [← hwe9]
    exact h3.setCell (by show w.heap.size ≤ w.heap.size + 1; omega) _)
  clear HR8 HRF8 HB8 hr9 hd8 hwe9 d3 f3 hxd hwe8
  go_region
  simp only [Exit.then]
  obtain ⟨wa, hwa⟩ : ∃ W, w9.drew = W := ⟨_, rfl⟩
  have hba : Below w9.heap.size w9 wa := by rw [← hwa]; exact (Below.refl _ _).drew
  rw [hwa]
  clear hwa g0
  have HRFa := Lib.hid (HRF9.out.later hba)
  have HRa := Lib.hid (HR9.out.later hba)
  have HKa := Lib.hid (HK9.out.later hba)
  have HBa := Lib.hid (HB9.out.trans (hba.mono HB9.out.size))
  clear HRF9 HR9 HB9 hba
  have HBU := Lib.hid (rburn_any wa x room HRFa.out)
  go_wp2_with fail
  refine HBU.out.mono ?_
  rintro e wb ⟨rfl, rfl⟩
  have HFI := Lib.hid (rfind_any wa x room HRFa.out k)
  obtain ⟨k0, k1, k2, k3⟩ := HKa.out.cells
  unfold kv at HFI
  clear HBU
  go_wp2_with fail
  refine HFI.out.mono ?_
  rintro e wr ⟨rfl, hbr⟩
  have HRFr := Lib.hid (HRFa.out.later hbr)
  have HRr := Lib.hid (HRa.out.later hbr)
  have HKr := Lib.hid (HKa.out.later hbr)
  have HBr := Lib.hid (HBa.out.trans (hbr.mono HBa.out.size))
  clear HFI HRFa HRa HKa HBa hbr k0 k1 k2 k3
  go_upto_region 28 with fail
-- REG R28
  refine wp_region_ptab (L := fun ph => match ph with | 0 => [cV (.pointer (some ⟨x, 0, .none⟩)), thV wr.heap.size 0 [], cV (.pointer (some ⟨x, 0, .none⟩)), cV (.pointer (some ⟨x, 0, .none⟩)), cV (.pointer (some ⟨x, 2, .none⟩)), cV (.slice none 0 0), cV (.int .i64 0), cV (.slice none 0 0), thV wr.heap.size 0 [], cV (.agg #[.int .i64 k.a, .int .i64 k.b, .int .i64 k.c, .int .i64 k.d]), cV (.agg #[.int .i64 k.a, .int .i64 k.b, .int .i64 k.c, .int .i64 k.d, .bool false, .slice none 0 0, .slice none 0 0, .slice none 0 0]), ntV k, thV wr.heap.size 1 (tcells k), cV (.pointer (some ⟨x, 0, .none⟩)), cV (.pointer (some ⟨x, 0, .none⟩)), cV (.pointer (some ⟨x, 2, .none⟩)), cV (.slice none 0 0), cV (.int .i64 0), cV (.slice none 0 0), nV, cV (.pointer (some ⟨x, 0, .none⟩)), cV (.pointer (some ⟨x, 2, .none⟩)), tV] | 1 => [cV (.pointer (some ⟨x, 0, .none⟩)), tV, cV (.pointer (some ⟨x, 0, .none⟩)), cV (.pointer (some ⟨x, 0, .none⟩)), cV (.pointer (some ⟨x, 2, .none⟩)), cV (.slice none 0 0), cV (.int .i64 0), cV (.slice none 0 0), tV, cV (.agg #[.int .i64 k.a, .int .i64 k.b, .int .i64 k.c, .int .i64 k.d]), cV (.agg #[.int .i64 k.a, .int .i64 k.b, .int .i64 k.c, .int .i64 k.d, .bool false, .slice none 0 0, .slice none 0 0, .slice none 0 0]), tV, thV wr.heap.size 1 (tcells k), cV (.pointer (some ⟨x, 0, .none⟩)), cV (.pointer (some ⟨x, 0, .none⟩)), cV (.pointer (some ⟨x, 2, .none⟩)), cV (.slice none 0 0), cV (.int .i64 0), cV (.slice none 0 0), thV wr.heap.size 1 (tcells k), cV (.pointer (some ⟨x, 0, .none⟩)), cV (.pointer (some ⟨x, 2, .none⟩)), tV] | _ => [cV (.pointer (some ⟨x, 0, .none⟩)), tV, cV (.pointer (some ⟨x, 0, .none⟩)), cV (.pointer (some ⟨x, 0, .none⟩)), cV (.pointer (some ⟨x, 2, .none⟩)), cV (.slice none 0 0), cV (.int .i64 0), cV (.slice none 0 0), tV, cV (.agg #[.int .i64 k.a, .int .i64 k.b, .int .i64 k.c, .int .i64 k.d]), cV (.agg #[.int .i64 k.a, .int .i64 k.b, .int .i64 k.c, .int .i64 k.d, .bool false, .slice none 0 0, .slice none 0 0, .slice none 0 0]), tV, tV, cV (.pointer (some ⟨x, 0, .none⟩)), cV (.pointer (some ⟨x, 0, .none⟩)), cV (.pointer (some ⟨x, 2, .none⟩)), cV (.slice none 0 0), cV (.int .i64 0), cV (.slice none 0 0), tV, cV (.pointer (some ⟨x, 0, .none⟩)), cV (.pointer (some ⟨x, 2, .none⟩)), tV]) (jTh wr x room k) [12, 22] [(0, 1), (0, 0), (0, 0), (0, 0), (0, 0), (0, 0), (0, 0), (0, 0), (0, 0), (0, 0), (0, 0), (0, 0), (0, 1), (0, 1), (0, 1), (0, 1), (0, 1), (0, 1), (0, 1), (1, 1), (0, 1), (0, 1), (1, 2)] [[(0, none)], [], [(0, none)], [(131, some 2)], [(132, some 3)], [(133, some 4)], [(8, none)], [(134, some 5), (135, some 6)], [(130, some 1), (136, some 7)], [(4, none)], [(138, some 9)], [(139, some 10)], [(137, some 8), (140, some 11)], [(0, none)], [(142, some 13)], [(143, some 14)], [(144, some 15)], [(8, none)], [(145, some 16), (146, some 17)], [(141, some 12), (147, some 18)], [(129, some 0)], [(149, some 20)], [(150, some 21), (148, some 19)]] 23 2 178 (by kernel_rfl) rfl rfl rfl (by kernel_rfl) (by kernel_rfl) (by decide) (by kernel_rfl) ?_ ?_ ?_ ?_ ?_
  · exact fun ph w1 w2 h hb => jTh_st ph h hb
  · exact Below.refl _ _
  · show ∀ i, i < 23 → _
    iterate 23 (refine fls ?_ ?_)
    · exact fl0
    · intro hne lo hi ph hran hp1 hp2 a w1 hJ hsz hs      -- 0: slot 129
      obtain ⟨rfl, rfl⟩ : 0 = lo ∧ 1 = hi := Prod.mk.inj (Option.some.inj hran)
      rcases (by omega : ph = 0 ∨ ph = 1) with rfl | rfl
      · obtain ⟨h0, _⟩ := hs
        have h0 : a.tmps.getD 0 undef = .pointer (some ⟨x, 0, .none⟩) := h0
        refine op_run rfl rfl (v := .pointer (some ⟨x, 0, .none⟩)) (w' := w1) ?_ rfl (Below.refl _ _)
        simp [execOp, Act.eval, h0, go_sem]
      · obtain ⟨h0, _⟩ := hs
        have h0 : a.tmps.getD 0 undef = .pointer (some ⟨x, 0, .none⟩) := h0
        refine op_run rfl rfl (v := .pointer (some ⟨x, 0, .none⟩)) (w' := w1) ?_ rfl (Below.refl _ _)
        simp [execOp, Act.eval, h0, go_sem]
    · intro hne lo hi ph hran hp1 hp2 a w1 hJ hsz hs      -- 1: slot 130
      obtain ⟨rfl, rfl⟩ : 0 = lo ∧ 0 = hi := Prod.mk.inj (Option.some.inj hran)
      obtain rfl : ph = 0 := by omega
      refine op_run rfl rfl (v := .slice (some ⟨w1.heap.size, 0, .none⟩) 0 0) (w' := w1.alloc (.cells #[] 119)) ?_ (owV_new (Below.size (jTh_below 0 (by decide) hJ)) _ _) ((Below.refl _ _).alloc (Nat.le_refl _) _)
      simp [execOp, Act.eval, go_sem]
    · intro hne lo hi ph hran hp1 hp2 a w1 hJ hsz hs      -- 2: slot 131
      obtain ⟨rfl, rfl⟩ : 0 = lo ∧ 0 = hi := Prod.mk.inj (Option.some.inj hran)
      obtain rfl : ph = 0 := by omega
      obtain ⟨h0, _⟩ := hs
      have h0 : a.tmps.getD 0 undef = .pointer (some ⟨x, 0, .none⟩) := h0
      refine op_run rfl rfl (v := .pointer (some ⟨x, 0, .none⟩)) (w' := w1) ?_ rfl (Below.refl _ _)
      simp [execOp, Act.eval, h0, go_sem]
    · intro hne lo hi ph hran hp1 hp2 a w1 hJ hsz hs      -- 3: slot 132
      obtain ⟨rfl, rfl⟩ : 0 = lo ∧ 0 = hi := Prod.mk.inj (Option.some.inj hran)
      obtain rfl : ph = 0 := by omega
      obtain ⟨h0, _⟩ := hs
      have h0 : a.tmps.getD 131 undef = .pointer (some ⟨x, 0, .none⟩) := h0
      refine op_run rfl rfl (v := .pointer (some ⟨x, 0, .none⟩)) (w' := w1) ?_ rfl (Below.refl _ _)
      simp [execOp, Act.eval, h0, go_sem]
    · intro hne lo hi ph hran hp1 hp2 a w1 hJ hsz hs      -- 4: slot 133
      obtain ⟨rfl, rfl⟩ : 0 = lo ∧ 0 = hi := Prod.mk.inj (Option.some.inj hran)
      obtain rfl : ph = 0 := by omega
      obtain ⟨h0, _⟩ := hs
      have h0 : a.tmps.getD 132 undef = .pointer (some ⟨x, 0, .none⟩) := h0
      refine op_run rfl rfl (v := .pointer (some ⟨x, 2, .none⟩)) (w' := w1) ?_ rfl (Below.refl _ _)
      simp [execOp, Act.eval, h0, go_sem]
    · intro hne lo hi ph hran hp1 hp2 a w1 hJ hsz hs      -- 5: slot 134
      obtain ⟨rfl, rfl⟩ : 0 = lo ∧ 0 = hi := Prod.mk.inj (Option.some.inj hran)
      obtain rfl : ph = 0 := by omega
      obtain ⟨h0, _⟩ := hs
      have h0 : a.tmps.getD 133 undef = .pointer (some ⟨x, 2, .none⟩) := h0
      have c := RefAt.cells (HRFr.out.later (jTh_below 0 (by decide) hJ))
      have c2 := c.2.2.1
      refine op_run rfl rfl (v := .slice none 0 0) (w' := w1) ?_ rfl (Below.refl _ _)
      simp [execOp, Act.eval, h0, c2, go_sem]
    · intro hne lo hi ph hran hp1 hp2 a w1 hJ hsz hs      -- 6: slot 135
      obtain ⟨rfl, rfl⟩ : 0 = lo ∧ 0 = hi := Prod.mk.inj (Option.some.inj hran)
      obtain rfl : ph = 0 := by omega
      obtain ⟨h0, _⟩ := hs
      have h0 : a.tmps.getD 8 undef = .int .i64 0 := h0
      refine op_run rfl rfl (v := .int .i64 0) (w' := w1) ?_ rfl (Below.refl _ _)
      simp [execOp, Act.eval, h0, go_sem]
    · intro hne lo hi ph hran hp1 hp2 a w1 hJ hsz hs      -- 7: slot 136
      obtain ⟨rfl, rfl⟩ : 0 = lo ∧ 0 = hi := Prod.mk.inj (Option.some.inj hran)
      obtain rfl : ph = 0 := by omega
      obtain ⟨h0, h1, _⟩ := hs
      have h0 : a.tmps.getD 134 undef = .slice none 0 0 := h0
      have h1 : a.tmps.getD 135 undef = .int .i64 0 := h1
      refine op_run rfl rfl (v := .slice none 0 0) (w' := w1) ?_ rfl (Below.refl _ _)
      simp [execOp, Act.eval, h0, h1, go_sem]
    · intro hne lo hi ph hran hp1 hp2 a w1 hJ hsz hs      -- 8: slot 137
      obtain ⟨rfl, rfl⟩ : 0 = lo ∧ 0 = hi := Prod.mk.inj (Option.some.inj hran)
      obtain rfl : ph = 0 := by omega
      obtain ⟨h0, h1, _⟩ := hs
      obtain ⟨v0, e0, m0⟩ : ∃ v, a.tmps.getD 130 undef = v ∧ (thV wr.heap.size 0 []).p w1 v := ⟨_, rfl, h0⟩
      have h1 : a.tmps.getD 136 undef = .slice none 0 0 := h1
      obtain ⟨m0a, aa, nn, ca, rfl⟩ := m0
      have e0 : a.tmps[130]?.getD undef = .slice aa nn ca := by rw [← e0]; exact (Array.getD_eq_getD_getElem?).symm
      have h1 : a.tmps[136]?.getD undef = .slice none 0 0 := by rw [← h1]; exact (Array.getD_eq_getD_getElem?).symm
      refine op_run rfl rfl (v := .slice aa nn ca) (w' := w1) (exec_append (vs := .slice aa nn ca) (vx := .slice none 0 0) rfl ?_ ?_ (thV_none ⟨m0a, aa, nn, ca, rfl⟩)) ⟨m0a, aa, nn, ca, rfl⟩ (Below.refl _ _)
      · simp [Act.eval, e0]
      · simp [Act.eval, h1]
    · intro hne lo hi ph hran hp1 hp2 a w1 hJ hsz hs      -- 9: slot 138
      obtain ⟨rfl, rfl⟩ : 0 = lo ∧ 0 = hi := Prod.mk.inj (Option.some.inj hran)
      obtain rfl : ph = 0 := by omega
      obtain ⟨h0, _⟩ := hs
      have h0 : a.tmps.getD 4 undef = .pointer (some ⟨w.heap.size, 0, .none⟩) := h0
      obtain ⟨c, c', c'', c'''⟩ := KeyAt.cells (HKr.out.later (jTh_below 0 (by decide) hJ))
      refine op_run rfl rfl (v := .agg #[.int .i64 k.a, .int .i64 k.b, .int .i64 k.c, .int .i64 k.d]) (w' := w1) ?_ rfl (Below.refl _ _)
      simp [execOp, Act.eval, h0, c, c', c'', c''', go_sem]
    · intro hne lo hi ph hran hp1 hp2 a w1 hJ hsz hs      -- 10: slot 139
      obtain ⟨rfl, rfl⟩ : 0 = lo ∧ 0 = hi := Prod.mk.inj (Option.some.inj hran)
      obtain rfl : ph = 0 := by omega
      obtain ⟨h0, _⟩ := hs
      have h0 : a.tmps.getD 138 undef = .agg #[.int .i64 k.a, .int .i64 k.b, .int .i64 k.c, .int .i64 k.d] := h0
      have g0 : a.tmps[138]?.getD undef = .agg #[.int .i64 k.a, .int .i64 k.b, .int .i64 k.c, .int .i64 k.d] := (Array.getD_eq_getD_getElem? ..).symm.trans h0
      refine op_run rfl rfl (v := .agg #[.int .i64 k.a, .int .i64 k.b, .int .i64 k.c, .int .i64 k.d, .bool false, .slice none 0 0, .slice none 0 0, .slice none 0 0]) (w' := w1) ?_ rfl (Below.refl _ _)
      simp [execOp, Act.eval, g0, go_sem]
    · intro hne lo hi ph hran hp1 hp2 a w1 hJ hsz hs      -- 11: slot 140
      obtain ⟨rfl, rfl⟩ : 0 = lo ∧ 0 = hi := Prod.mk.inj (Option.some.inj hran)
      obtain rfl : ph = 0 := by omega
      obtain ⟨h0, _⟩ := hs
      have h0 : a.tmps.getD 139 undef = .agg #[.int .i64 k.a, .int .i64 k.b, .int .i64 k.c, .int .i64 k.d, .bool false, .slice none 0 0, .slice none 0 0, .slice none 0 0] := h0
      have g0 : a.tmps[139]?.getD undef = .agg #[.int .i64 k.a, .int .i64 k.b, .int .i64 k.c, .int .i64 k.d, .bool false, .slice none 0 0, .slice none 0 0, .slice none 0 0] := (Array.getD_eq_getD_getElem? ..).symm.trans h0
      refine op_run rfl rfl (v := .slice (some ⟨w1.heap.size, 0, .none⟩) 1 1) (w' := w1.alloc (.cells (tcells k).toArray 119)) ?_ ⟨w1.heap.size, rfl, (MapKept.heap_alloc w1 _).1⟩ ((Below.refl _ _).alloc (Nat.le_refl _) _)
      have e0 : a.tmps[139]?.getD undef = .agg #[.int .i64 k.a, .int .i64 k.b, .int .i64 k.c, .int .i64 k.d, .bool false, .slice none 0 0, .slice none 0 0, .slice none 0 0] := by rw [← h0]; exact (Array.getD_eq_getD_getElem?).symm
      simp [execOp, Act.eval, e0, go_sem, tcells]
    · intro hne lo hi ph hran hp1 hp2 a w1 hJ hsz hs      -- 12: slot 141
      exact absurd (by decide) hne
    · intro hne lo hi ph hran hp1 hp2 a w1 hJ hsz hs      -- 13: slot 142
      obtain ⟨rfl, rfl⟩ : 0 = lo ∧ 1 = hi := Prod.mk.inj (Option.some.inj hran)
      rcases (by omega : ph = 0 ∨ ph = 1) with rfl | rfl
      · obtain ⟨h0, _⟩ := hs
        have h0 : a.tmps.getD 0 undef = .pointer (some ⟨x, 0, .none⟩) := h0
        refine op_run rfl rfl (v := .pointer (some ⟨x, 0, .none⟩)) (w' := w1) ?_ rfl (Below.refl _ _)
        simp [execOp, Act.eval, h0, go_sem]
      · obtain ⟨h0, _⟩ := hs
        have h0 : a.tmps.getD 0 undef = .pointer (some ⟨x, 0, .none⟩) := h0
        refine op_run rfl rfl (v := .pointer (some ⟨x, 0, .none⟩)) (w' := w1) ?_ rfl (Below.refl _ _)
        simp [execOp, Act.eval, h0, go_sem]
    · intro hne lo hi ph hran hp1 hp2 a w1 hJ hsz hs      -- 14: slot 143
      obtain ⟨rfl, rfl⟩ : 0 = lo ∧ 1 = hi := Prod.mk.inj (Option.some.inj hran)
      rcases (by omega : ph = 0 ∨ ph = 1) with rfl | rfl
      · obtain ⟨h0, _⟩ := hs
        have h0 : a.tmps.getD 142 undef = .pointer (some ⟨x, 0, .none⟩) := h0
        refine op_run rfl rfl (v := .pointer (some ⟨x, 0, .none⟩)) (w' := w1) ?_ rfl (Below.refl _ _)
        simp [execOp, Act.eval, h0, go_sem]
      · obtain ⟨h0, _⟩ := hs
        have h0 : a.tmps.getD 142 undef = .pointer (some ⟨x, 0, .none⟩) := h0
        refine op_run rfl rfl (v := .pointer (some ⟨x, 0, .none⟩)) (w' := w1) ?_ rfl (Below.refl _ _)
        simp [execOp, Act.eval, h0, go_sem]
    · intro hne lo hi ph hran hp1 hp2 a w1 hJ hsz hs      -- 15: slot 144
      obtain ⟨rfl, rfl⟩ : 0 = lo ∧ 1 = hi := Prod.mk.inj (Option.some.inj hran)
      rcases (by omega : ph = 0 ∨ ph = 1) with rfl | rfl
      · obtain ⟨h0, _⟩ := hs
        have h0 : a.tmps.getD 143 undef = .pointer (some ⟨x, 0, .none⟩) := h0
        refine op_run rfl rfl (v := .pointer (some ⟨x, 2, .none⟩)) (w' := w1) ?_ rfl (Below.refl _ _)
        simp [execOp, Act.eval, h0, go_sem]
      · obtain ⟨h0, _⟩ := hs
        have h0 : a.tmps.getD 143 undef = .pointer (some ⟨x, 0, .none⟩) := h0
        refine op_run rfl rfl (v := .pointer (some ⟨x, 2, .none⟩)) (w' := w1) ?_ rfl (Below.refl _ _)
        simp [execOp, Act.eval, h0, go_sem]
    · intro hne lo hi ph hran hp1 hp2 a w1 hJ hsz hs      -- 16: slot 145
      obtain ⟨rfl, rfl⟩ : 0 = lo ∧ 1 = hi := Prod.mk.inj (Option.some.inj hran)
      rcases (by omega : ph = 0 ∨ ph = 1) with rfl | rfl
      · obtain ⟨h0, _⟩ := hs
        have h0 : a.tmps.getD 144 undef = .pointer (some ⟨x, 2, .none⟩) := h0
        have c := RefAt.cells (HRFr.out.later (jTh_below 0 (by decide) hJ))
        have c2 := c.2.2.1
        refine op_run rfl rfl (v := .slice none 0 0) (w' := w1) ?_ rfl (Below.refl _ _)
        simp [execOp, Act.eval, h0, c2, go_sem]
      · obtain ⟨h0, _⟩ := hs
        have h0 : a.tmps.getD 144 undef = .pointer (some ⟨x, 2, .none⟩) := h0
        have c := RefAt.cells (HRFr.out.later (jTh_below 1 (by decide) hJ))
        have c2 := c.2.2.1
        refine op_run rfl rfl (v := .slice none 0 0) (w' := w1) ?_ rfl (Below.refl _ _)
        simp [execOp, Act.eval, h0, c2, go_sem]
    · intro hne lo hi ph hran hp1 hp2 a w1 hJ hsz hs      -- 17: slot 146
      obtain ⟨rfl, rfl⟩ : 0 = lo ∧ 1 = hi := Prod.mk.inj (Option.some.inj hran)
      rcases (by omega : ph = 0 ∨ ph = 1) with rfl | rfl
      · obtain ⟨h0, _⟩ := hs
        have h0 : a.tmps.getD 8 undef = .int .i64 0 := h0
        refine op_run rfl rfl (v := .int .i64 0) (w' := w1) ?_ rfl (Below.refl _ _)
        simp [execOp, Act.eval, h0, go_sem]
      · obtain ⟨h0, _⟩ := hs
        have h0 : a.tmps.getD 8 undef = .int .i64 0 := h0
        refine op_run rfl rfl (v := .int .i64 0) (w' := w1) ?_ rfl (Below.refl _ _)
        simp [execOp, Act.eval, h0, go_sem]
    · intro hne lo hi ph hran hp1 hp2 a w1 hJ hsz hs      -- 18: slot 147
      obtain ⟨rfl, rfl⟩ : 0 = lo ∧ 1 = hi := Prod.mk.inj (Option.some.inj hran)
      rcases (by omega : ph = 0 ∨ ph = 1) with rfl | rfl
      · obtain ⟨h0, h1, _⟩ := hs
        have h0 : a.tmps.getD 145 undef = .slice none 0 0 := h0
        have h1 : a.tmps.getD 146 undef = .int .i64 0 := h1
        refine op_run rfl rfl (v := .slice none 0 0) (w' := w1) ?_ rfl (Below.refl _ _)
        simp [execOp, Act.eval, h0, h1, go_sem]
      · obtain ⟨h0, h1, _⟩ := hs
        have h0 : a.tmps.getD 145 undef = .slice none 0 0 := h0
        have h1 : a.tmps.getD 146 undef = .int .i64 0 := h1
        refine op_run rfl rfl (v := .slice none 0 0) (w' := w1) ?_ rfl (Below.refl _ _)
        simp [execOp, Act.eval, h0, h1, go_sem]
    · intro hne lo hi ph hran hp1 hp2 a w1 hJ hsz hs      -- 19: slot 148
      obtain ⟨rfl, rfl⟩ : 1 = lo ∧ 1 = hi := Prod.mk.inj (Option.some.inj hran)
      obtain rfl : ph = 1 := by omega
      obtain ⟨h0, h1, _⟩ := hs
      obtain ⟨v0, e0, m0⟩ : ∃ v, a.tmps.getD 141 undef = v ∧ (thV wr.heap.size 1 (tcells k)).p w1 v := ⟨_, rfl, h0⟩
      have h1 : a.tmps.getD 147 undef = .slice none 0 0 := h1
      obtain ⟨m0a, aa, nn, ca, rfl⟩ := m0
      have e0 : a.tmps[141]?.getD undef = .slice aa nn ca := by rw [← e0]; exact (Array.getD_eq_getD_getElem?).symm
      have h1 : a.tmps[147]?.getD undef = .slice none 0 0 := by rw [← h1]; exact (Array.getD_eq_getD_getElem?).symm
      refine op_run rfl rfl (v := .slice aa nn ca) (w' := w1) (exec_append (vs := .slice aa nn ca) (vx := .slice none 0 0) rfl ?_ ?_ (thV_none ⟨m0a, aa, nn, ca, rfl⟩)) ⟨m0a, aa, nn, ca, rfl⟩ (Below.refl _ _)
      · simp [Act.eval, e0]
      · simp [Act.eval, h1]
    · intro hne lo hi ph hran hp1 hp2 a w1 hJ hsz hs      -- 20: slot 149
      obtain ⟨rfl, rfl⟩ : 0 = lo ∧ 1 = hi := Prod.mk.inj (Option.some.inj hran)
      rcases (by omega : ph = 0 ∨ ph = 1) with rfl | rfl
      · obtain ⟨h0, _⟩ := hs
        have h0 : a.tmps.getD 129 undef = .pointer (some ⟨x, 0, .none⟩) := h0
        refine op_run rfl rfl (v := .pointer (some ⟨x, 0, .none⟩)) (w' := w1) ?_ rfl (Below.refl _ _)
        simp [execOp, Act.eval, h0, go_sem]
      · obtain ⟨h0, _⟩ := hs
        have h0 : a.tmps.getD 129 undef = .pointer (some ⟨x, 0, .none⟩) := h0
        refine op_run rfl rfl (v := .pointer (some ⟨x, 0, .none⟩)) (w' := w1) ?_ rfl (Below.refl _ _)
        simp [execOp, Act.eval, h0, go_sem]
    · intro hne lo hi ph hran hp1 hp2 a w1 hJ hsz hs      -- 21: slot 150
      obtain ⟨rfl, rfl⟩ : 0 = lo ∧ 1 = hi := Prod.mk.inj (Option.some.inj hran)
      rcases (by omega : ph = 0 ∨ ph = 1) with rfl | rfl
      · obtain ⟨h0, _⟩ := hs
        have h0 : a.tmps.getD 149 undef = .pointer (some ⟨x, 0, .none⟩) := h0
        refine op_run rfl rfl (v := .pointer (some ⟨x, 2, .none⟩)) (w' := w1) ?_ rfl (Below.refl _ _)
        simp [execOp, Act.eval, h0, go_sem]
      · obtain ⟨h0, _⟩ := hs
        have h0 : a.tmps.getD 149 undef = .pointer (some ⟨x, 0, .none⟩) := h0
        refine op_run rfl rfl (v := .pointer (some ⟨x, 2, .none⟩)) (w' := w1) ?_ rfl (Below.refl _ _)
        simp [execOp, Act.eval, h0, go_sem]
    · intro hne lo hi ph hran hp1 hp2 a w1 hJ hsz hs      -- 22: slot None
      exact absurd (by decide) hne
  · show ∀ ph, ph < 2 → _
    iterate 2 (refine fls ?_ ?_)
    · exact fl0
    · intro i hi a w1 hJ hsz hs      -- heavy 0: op 12 slot 141
      obtain rfl : 12 = i := Option.some.inj hi
      obtain ⟨h0, h1, _⟩ := hs
      obtain ⟨v0, e0, m0⟩ : ∃ v, a.tmps.getD 137 undef = v ∧ (thV wr.heap.size 0 []).p w1 v := ⟨_, rfl, h0⟩
      obtain ⟨v1, e1, m1⟩ : ∃ v, a.tmps.getD 140 undef = v ∧ (ntV k).p w1 v := ⟨_, rfl, h1⟩
      have hcalm : ∀ (wq1 wq2 : World) (kk : Nat) (v0 : Value), kk ≠ 12 → VL [cV (.pointer (some ⟨x, 0, .none⟩)), thV wr.heap.size 0 [], cV (.pointer (some ⟨x, 0, .none⟩)), cV (.pointer (some ⟨x, 0, .none⟩)), cV (.pointer (some ⟨x, 2, .none⟩)), cV (.slice none 0 0), cV (.int .i64 0), cV (.slice none 0 0), thV wr.heap.size 0 [], cV (.agg #[.int .i64 k.a, .int .i64 k.b, .int .i64 k.c, .int .i64 k.d]), cV (.agg #[.int .i64 k.a, .int .i64 k.b, .int .i64 k.c, .int .i64 k.d, .bool false, .slice none 0 0, .slice none 0 0, .slice none 0 0]), ntV k, thV wr.heap.size 1 (tcells k), cV (.pointer (some ⟨x, 0, .none⟩)), cV (.pointer (some ⟨x, 0, .none⟩)), cV (.pointer (some ⟨x, 2, .none⟩)), cV (.slice none 0 0), cV (.int .i64 0), cV (.slice none 0 0), nV, cV (.pointer (some ⟨x, 0, .none⟩)), cV (.pointer (some ⟨x, 2, .none⟩)), tV] kk wq1 v0 → VL [cV (.pointer (some ⟨x, 0, .none⟩)), tV, cV (.pointer (some ⟨x, 0, .none⟩)), cV (.pointer (some ⟨x, 0, .none⟩)), cV (.pointer (some ⟨x, 2, .none⟩)), cV (.slice none 0 0), cV (.int .i64 0), cV (.slice none 0 0), tV, cV (.agg #[.int .i64 k.a, .int .i64 k.b, .int .i64 k.c, .int .i64 k.d]), cV (.agg #[.int .i64 k.a, .int .i64 k.b, .int .i64 k.c, .int .i64 k.d, .bool false, .slice none 0 0, .slice none 0 0, .slice none 0 0]), tV, thV wr.heap.size 1 (tcells k), cV (.pointer (some ⟨x, 0, .none⟩)), cV (.pointer (some ⟨x, 0, .none⟩)), cV (.pointer (some ⟨x, 2, .none⟩)), cV (.slice none 0 0), cV (.int .i64 0), cV (.slice none 0 0), thV wr.heap.size 1 (tcells k), cV (.pointer (some ⟨x, 0, .none⟩)), cV (.pointer (some ⟨x, 2, .none⟩)), tV] kk wq2 v0 := Calm2.all (n := 0) ⟨.inl ⟨_, rfl, rfl⟩, .inr (.inl rfl), .inl ⟨_, rfl, rfl⟩, .inl ⟨_, rfl, rfl⟩, .inl ⟨_, rfl, rfl⟩, .inl ⟨_, rfl, rfl⟩, .inl ⟨_, rfl, rfl⟩, .inl ⟨_, rfl, rfl⟩, .inr (.inl rfl), .inl ⟨_, rfl, rfl⟩, .inl ⟨_, rfl, rfl⟩, .inr (.inl rfl), .inr (.inr (.inl rfl)), .inl ⟨_, rfl, rfl⟩, .inl ⟨_, rfl, rfl⟩, .inl ⟨_, rfl, rfl⟩, .inl ⟨_, rfl, rfl⟩, .inl ⟨_, rfl, rfl⟩, .inl ⟨_, rfl, rfl⟩, .inr (.inr (.inr rfl)), .inl ⟨_, rfl, rfl⟩, .inl ⟨_, rfl, rfl⟩, .inr (.inl rfl), trivial⟩
      obtain ⟨v', w', hr, hm, hb'⟩ := owV_one (jTh_below 0 (by decide) hJ) m0 m1
      refine hv_run rfl rfl (v := v') (w' := w') ?_ hm hb' (hcalm _ _)
      exact exec_append rfl (by simp [Act.eval, e0]) (by simp [Act.eval, e1]) hr
    · intro i hi a w1 hJ hsz hs      -- heavy 1: op 22 slot None
      obtain rfl : 22 = i := Option.some.inj hi
      obtain ⟨h0, h1, _⟩ := hs
      have h0 : a.tmps.getD 150 undef = .pointer (some ⟨x, 2, .none⟩) := h0
      have g0 : a.tmps[150]?.getD undef = .pointer (some ⟨x, 2, .none⟩) := (Array.getD_eq_getD_getElem? ..).symm.trans h0
      obtain ⟨v1, e1, m1⟩ : ∃ v, a.tmps.getD 148 undef = v ∧ (thV wr.heap.size 1 (tcells k)).p w1 v := ⟨_, rfl, h1⟩
      have hcalm : ∀ (wq1 wq2 : World) (kk : Nat) (v0 : Value), kk ≠ 22 → VL [cV (.pointer (some ⟨x, 0, .none⟩)), tV, cV (.pointer (some ⟨x, 0, .none⟩)), cV (.pointer (some ⟨x, 0, .none⟩)), cV (.pointer (some ⟨x, 2, .none⟩)), cV (.slice none 0 0), cV (.int .i64 0), cV (.slice none 0 0), tV, cV (.agg #[.int .i64 k.a, .int .i64 k.b, .int .i64 k.c, .int .i64 k.d]), cV (.agg #[.int .i64 k.a, .int .i64 k.b, .int .i64 k.c, .int .i64 k.d, .bool false, .slice none 0 0, .slice none 0 0, .slice none 0 0]), tV, thV wr.heap.size 1 (tcells k), cV (.pointer (some ⟨x, 0, .none⟩)), cV (.pointer (some ⟨x, 0, .none⟩)), cV (.pointer (some ⟨x, 2, .none⟩)), cV (.slice none 0 0), cV (.int .i64 0), cV (.slice none 0 0), thV wr.heap.size 1 (tcells k), cV (.pointer (some ⟨x, 0, .none⟩)), cV (.pointer (some ⟨x, 2, .none⟩)), tV] kk wq1 v0 → VL [cV (.pointer (some ⟨x, 0, .none⟩)), tV, cV (.pointer (some ⟨x, 0, .none⟩)), cV (.pointer (some ⟨x, 0, .none⟩)), cV (.pointer (some ⟨x, 2, .none⟩)), cV (.slice none 0 0), cV (.int .i64 0), cV (.slice none 0 0), tV, cV (.agg #[.int .i64 k.a, .int .i64 k.b, .int .i64 k.c, .int .i64 k.d]), cV (.agg #[.int .i64 k.a, .int .i64 k.b, .int .i64 k.c, .int .i64 k.d, .bool false, .slice none 0 0, .slice none 0 0, .slice none 0 0]), tV, tV, cV (.pointer (some ⟨x, 0, .none⟩)), cV (.pointer (some ⟨x, 0, .none⟩)), cV (.pointer (some ⟨x, 2, .none⟩)), cV (.slice none 0 0), cV (.int .i64 0), cV (.slice none 0 0), tV, cV (.pointer (some ⟨x, 0, .none⟩)), cV (.pointer (some ⟨x, 2, .none⟩)), tV] kk wq2 v0 := Calm2.all (n := 0) ⟨.inl ⟨_, rfl, rfl⟩, .inr (.inl rfl), .inl ⟨_, rfl, rfl⟩, .inl ⟨_, rfl, rfl⟩, .inl ⟨_, rfl, rfl⟩, .inl ⟨_, rfl, rfl⟩, .inl ⟨_, rfl, rfl⟩, .inl ⟨_, rfl, rfl⟩, .inr (.inl rfl), .inl ⟨_, rfl, rfl⟩, .inl ⟨_, rfl, rfl⟩, .inr (.inl rfl), .inr (.inl rfl), .inl ⟨_, rfl, rfl⟩, .inl ⟨_, rfl, rfl⟩, .inl ⟨_, rfl, rfl⟩, .inl ⟨_, rfl, rfl⟩, .inl ⟨_, rfl, rfl⟩, .inl ⟨_, rfl, rfl⟩, .inr (.inl rfl), .inl ⟨_, rfl, rfl⟩, .inl ⟨_, rfl, rfl⟩, .inr (.inr (.inl rfl)), trivial⟩
      obtain ⟨hown, aa, nn, ca, rfl⟩ := m1
      have hra := HRFr.out.later (jTh_below 1 (by decide) hJ)
      refine hv_skip rfl rfl (w' := w1.setCell ⟨x, 2, .none⟩ (.slice aa nn ca)) ?_ trivial (jTh_set (jTh_below 1 (by decide) hJ) HRFr.out ⟨hown, aa, nn, ca, rfl⟩) (hcalm _ _)
      have cc := hra.cells.2.2.1
      have cf := frozen_of_block hra 2
      simp [execOp, Act.eval, h0, e1, go_sem, cc, cf]
  intro f w1 hJ hv
  try simp only [Exit.then]
  simp only [putAll, List.foldl_cons, List.foldl_nil, Option.getD_some, Act.put, List.setIfInBounds_toArray, List.set_cons_succ, List.set_cons_zero]
  clear hv
  obtain ⟨hbt, vv, hrv, hown, _⟩ := hJ
  obtain ⟨bk, cap, cur, rfl, hbk, hcur, hcap, _, hsz, htk⟩ : ∃ bk cap cur, vv = .slice (some ⟨bk, 0, none⟩) 1 cap ∧ wr.heap.size ≤ bk ∧ w1.heap[bk]? = some (.cells cur 119 (0, 0)) ∧ 1 ≤ cap ∧ cap ≤ maxLen ∧ cur.size = cap * 8 ∧ cur.toList.take (1 * 8) = tcells k := by
    rcases hown.2 with ⟨_, hbad⟩ | h
    · cases hbad
    · exact h
  obtain ⟨ws, hws⟩ : ∃ ws, w1 = ws := ⟨_, rfl⟩
  rw [hws] at hbt hrv hcur ⊢
  clear hown hws w1
  have HBK := Lib.hid hcur
  have hxr := HRFr.out.lt
  have HXS : Hid (x < ws.heap.size) := Lib.hid (Nat.lt_of_lt_of_le hxr hbt.size)
  have HBS : Hid (bk < ws.heap.size) := Lib.hid (Array.getElem?_eq_some_iff.1 hcur).1
  have HXB : Hid (x ≠ bk) := Lib.hid (by omega)
  have HRV := Lib.hid hrv
  have HC2 : Hid (ws.cell? ⟨x, 2, .none⟩ = some (.slice (some ⟨bk, 0, .none⟩) 1 cap)) := Lib.hid (cell_of_block hrv rfl)
  have HC7 : Hid (ws.cell? ⟨bk, 7, .none⟩ = some (.slice none 0 0)) := Lib.hid (cell_of_block hcur (by
    have h7 : (cur.toList.take (1 * 8))[7]? = some (.slice none 0 0) := by rw [htk]; rfl
    rw [List.getElem?_take] at h7
    simpa using h7))
  have HRs : Hid (RecAt ws (w.heap.size + 1) #[.int .i64 1, .int .i64 0, .string ByteArray.empty, .slice (some ⟨y, 0, none⟩) 0 0] 94) := Lib.hid (by
    have h5 := HRr.out
    unfold RecAt at h5 ⊢
    rw [hbt.block _ (Array.getElem?_eq_some_iff.1 h5).1 (Ne.symm HXD.out)]
    simpa using h5)
  have HEN : Hid (∀ w', Bt ws w' bk → Bt w w' x) := Lib.hid fun w' hb' => ((Bt.of_below HBr.out x).trans hbt).trans' hb' (by have := HBr.out.size; omega)
  clear hbt hrv hcur hbk hcap hsz htk hxr
  go_upto_region 29 with fail
  -- REG R29
  refine wp_region_ptab (L := fun ph => match ph with | 0 => [cV (.pointer (some ⟨x, 0, .none⟩)), cV (.pointer (some ⟨x, 0, .none⟩)), cV (.pointer (some ⟨x, 2, .none⟩)), cV (.slice (some ⟨bk, 0, .none⟩) 1 cap), cV (.int .i64 0), rdRow ws.heap.size 0 [], cV (.pointer (some ⟨x, 0, .none⟩)), cV (.pointer (some ⟨x, 0, .none⟩)), cV (.pointer (some ⟨x, 2, .none⟩)), cV (.slice (some ⟨bk, 0, .none⟩) 1 cap), cV (.int .i64 0), cV (.pointer (some ⟨bk, 0, .none⟩)), cV (.pointer (some ⟨bk, 7, .none⟩)), cV (.slice none 0 0), rdRow ws.heap.size 0 [], cV (.agg #[.int .i64 1, .int .i64 0, .string ByteArray.empty, .slice (some ⟨y, 0, none⟩) 0 0]), rdNew y, rdRow ws.heap.size 1 (rdcells y), cV (.pointer (some ⟨bk, 0, .none⟩)), cV (.pointer (some ⟨bk, 7, .none⟩)), tV] | 1 => [cV (.pointer (some ⟨x, 0, .none⟩)), cV (.pointer (some ⟨x, 0, .none⟩)), cV (.pointer (some ⟨x, 2, .none⟩)), cV (.slice (some ⟨bk, 0, .none⟩) 1 cap), cV (.int .i64 0), tV, cV (.pointer (some ⟨x, 0, .none⟩)), cV (.pointer (some ⟨x, 0, .none⟩)), cV (.pointer (some ⟨x, 2, .none⟩)), cV (.slice (some ⟨bk, 0, .none⟩) 1 cap), cV (.int .i64 0), cV (.pointer (some ⟨bk, 0, .none⟩)), cV (.pointer (some ⟨bk, 7, .none⟩)), cV (.slice none 0 0), tV, cV (.agg #[.int .i64 1, .int .i64 0, .string ByteArray.empty, .slice (some ⟨y, 0, none⟩) 0 0]), tV, rdRow ws.heap.size 1 (rdcells y), cV (.pointer (some ⟨bk, 0, .none⟩)), cV (.pointer (some ⟨bk, 7, .none⟩)), tV] | _ => [cV (.pointer (some ⟨x, 0, .none⟩)), cV (.pointer (some ⟨x, 0, .none⟩)), cV (.pointer (some ⟨x, 2, .none⟩)), cV (.slice (some ⟨bk, 0, .none⟩) 1 cap), cV (.int .i64 0), tV, cV (.pointer (some ⟨x, 0, .none⟩)), cV (.pointer (some ⟨x, 0, .none⟩)), cV (.pointer (some ⟨x, 2, .none⟩)), cV (.slice (some ⟨bk, 0, .none⟩) 1 cap), cV (.int .i64 0), cV (.pointer (some ⟨bk, 0, .none⟩)), cV (.pointer (some ⟨bk, 7, .none⟩)), cV (.slice none 0 0), tV, cV (.agg #[.int .i64 1, .int .i64 0, .string ByteArray.empty, .slice (some ⟨y, 0, none⟩) 0 0]), tV, tV, cV (.pointer (some ⟨bk, 0, .none⟩)), cV (.pointer (some ⟨bk, 7, .none⟩)), tV]) (jUh ws bk) [17, 20] [(0, 1), (0, 1), (0, 1), (0, 1), (0, 1), (0, 0), (0, 0), (0, 0), (0, 0), (0, 0), (0, 0), (0, 0), (0, 0), (0, 0), (0, 0), (0, 0), (0, 0), (0, 1), (0, 1), (0, 1), (1, 2)] [[(0, none)], [(151, some 0)], [(152, some 1)], [(153, some 2)], [(8, none)], [], [(0, none)], [(157, some 6)], [(158, some 7)], [(159, some 8)], [(8, none)], [(160, some 9), (161, some 10)], [(162, some 11)], [(163, some 12)], [(156, some 5), (164, some 13)], [(5, none)], [(166, some 15)], [(165, some 14), (167, some 16)], [(154, some 3), (155, some 4)], [(169, some 18)], [(170, some 19), (168, some 17)]] 21 2 178 (by kernel_rfl) rfl rfl rfl (by kernel_rfl) (by kernel_rfl) (by decide) (by kernel_rfl) ?_ ?_ ?_ ?_ ?_
  · exact fun ph w1 w2 h hb => jUh_st ph h hb
  · exact Below.refl _ _
  · show ∀ i, i < 21 → _
    iterate 21 (refine fls ?_ ?_)
    · exact fl0
    · intro hne lo hi ph hran hp1 hp2 a w1 hJ hsz hs      -- 0: slot 151
      obtain ⟨rfl, rfl⟩ : 0 = lo ∧ 1 = hi := Prod.mk.inj (Option.some.inj hran)
      rcases (by omega : ph = 0 ∨ ph = 1) with rfl | rfl
      · obtain ⟨h0, _⟩ := hs
        have h0 : a.tmps.getD 0 undef = .pointer (some ⟨x, 0, .none⟩) := h0
        refine op_run rfl rfl (v := .pointer (some ⟨x, 0, .none⟩)) (w' := w1) ?_ rfl (Below.refl _ _)
        simp [execOp, Act.eval, h0, go_sem]
      · obtain ⟨h0, _⟩ := hs
        have h0 : a.tmps.getD 0 undef = .pointer (some ⟨x, 0, .none⟩) := h0
        refine op_run rfl rfl (v := .pointer (some ⟨x, 0, .none⟩)) (w' := w1) ?_ rfl (Below.refl _ _)
        simp [execOp, Act.eval, h0, go_sem]
    · intro hne lo hi ph hran hp1 hp2 a w1 hJ hsz hs      -- 1: slot 152
      obtain ⟨rfl, rfl⟩ : 0 = lo ∧ 1 = hi := Prod.mk.inj (Option.some.inj hran)
      rcases (by omega : ph = 0 ∨ ph = 1) with rfl | rfl
      · obtain ⟨h0, _⟩ := hs
        have h0 : a.tmps.getD 151 undef = .pointer (some ⟨x, 0, .none⟩) := h0
        refine op_run rfl rfl (v := .pointer (some ⟨x, 0, .none⟩)) (w' := w1) ?_ rfl (Below.refl _ _)
        simp [execOp, Act.eval, h0, go_sem]
      · obtain ⟨h0, _⟩ := hs
        have h0 : a.tmps.getD 151 undef = .pointer (some ⟨x, 0, .none⟩) := h0
        refine op_run rfl rfl (v := .pointer (some ⟨x, 0, .none⟩)) (w' := w1) ?_ rfl (Below.refl _ _)
        simp [execOp, Act.eval, h0, go_sem]
    · intro hne lo hi ph hran hp1 hp2 a w1 hJ hsz hs      -- 2: slot 153
      obtain ⟨rfl, rfl⟩ : 0 = lo ∧ 1 = hi := Prod.mk.inj (Option.some.inj hran)
      rcases (by omega : ph = 0 ∨ ph = 1) with rfl | rfl
      · obtain ⟨h0, _⟩ := hs
        have h0 : a.tmps.getD 152 undef = .pointer (some ⟨x, 0, .none⟩) := h0
        refine op_run rfl rfl (v := .pointer (some ⟨x, 2, .none⟩)) (w' := w1) ?_ rfl (Below.refl _ _)
        simp [execOp, Act.eval, h0, go_sem]
      · obtain ⟨h0, _⟩ := hs
        have h0 : a.tmps.getD 152 undef = .pointer (some ⟨x, 0, .none⟩) := h0
        refine op_run rfl rfl (v := .pointer (some ⟨x, 2, .none⟩)) (w' := w1) ?_ rfl (Below.refl _ _)
        simp [execOp, Act.eval, h0, go_sem]
    · intro hne lo hi ph hran hp1 hp2 a w1 hJ hsz hs      -- 3: slot 154
      obtain ⟨rfl, rfl⟩ : 0 = lo ∧ 1 = hi := Prod.mk.inj (Option.some.inj hran)
      rcases (by omega : ph = 0 ∨ ph = 1) with rfl | rfl
      · obtain ⟨h0, _⟩ := hs
        have h0 : a.tmps.getD 153 undef = .pointer (some ⟨x, 2, .none⟩) := h0
        have c2 := (Below.cell (jUh_below 0 (by decide) hJ) (p := ⟨x, 2, .none⟩) HXS.out).trans HC2.out
        refine op_run rfl rfl (v := .slice (some ⟨bk, 0, .none⟩) 1 cap) (w' := w1) ?_ rfl (Below.refl _ _)
        simp [execOp, Act.eval, h0, c2, go_sem]
      · obtain ⟨h0, _⟩ := hs
        have h0 : a.tmps.getD 153 undef = .pointer (some ⟨x, 2, .none⟩) := h0
        have c2 := (Below.cell (jUh_below 1 (by decide) hJ) (p := ⟨x, 2, .none⟩) HXS.out).trans HC2.out
        refine op_run rfl rfl (v := .slice (some ⟨bk, 0, .none⟩) 1 cap) (w' := w1) ?_ rfl (Below.refl _ _)
        simp [execOp, Act.eval, h0, c2, go_sem]
    · intro hne lo hi ph hran hp1 hp2 a w1 hJ hsz hs      -- 4: slot 155
      obtain ⟨rfl, rfl⟩ : 0 = lo ∧ 1 = hi := Prod.mk.inj (Option.some.inj hran)
      rcases (by omega : ph = 0 ∨ ph = 1) with rfl | rfl
      · obtain ⟨h0, _⟩ := hs
        have h0 : a.tmps.getD 8 undef = .int .i64 0 := h0
        refine op_run rfl rfl (v := .int .i64 0) (w' := w1) ?_ rfl (Below.refl _ _)
        simp [execOp, Act.eval, h0, go_sem]
      · obtain ⟨h0, _⟩ := hs
        have h0 : a.tmps.getD 8 undef = .int .i64 0 := h0
        refine op_run rfl rfl (v := .int .i64 0) (w' := w1) ?_ rfl (Below.refl _ _)
        simp [execOp, Act.eval, h0, go_sem]
    · intro hne lo hi ph hran hp1 hp2 a w1 hJ hsz hs      -- 5: slot 156
      obtain ⟨rfl, rfl⟩ : 0 = lo ∧ 0 = hi := Prod.mk.inj (Option.some.inj hran)
      obtain rfl : ph = 0 := by omega
      refine op_run rfl rfl (v := .slice (some ⟨w1.heap.size, 0, .none⟩) 0 0) (w' := w1.alloc (.cells #[] 94)) ?_ (owV_new (Below.size (jUh_below 0 (by decide) hJ)) _ _) ((Below.refl _ _).alloc (Nat.le_refl _) _)
      simp [execOp, Act.eval, go_sem]
    · intro hne lo hi ph hran hp1 hp2 a w1 hJ hsz hs      -- 6: slot 157
      obtain ⟨rfl, rfl⟩ : 0 = lo ∧ 0 = hi := Prod.mk.inj (Option.some.inj hran)
      obtain rfl : ph = 0 := by omega
      obtain ⟨h0, _⟩ := hs
      have h0 : a.tmps.getD 0 undef = .pointer (some ⟨x, 0, .none⟩) := h0
      refine op_run rfl rfl (v := .pointer (some ⟨x, 0, .none⟩)) (w' := w1) ?_ rfl (Below.refl _ _)
      simp [execOp, Act.eval, h0, go_sem]
    · intro hne lo hi ph hran hp1 hp2 a w1 hJ hsz hs      -- 7: slot 158
      obtain ⟨rfl, rfl⟩ : 0 = lo ∧ 0 = hi := Prod.mk.inj (Option.some.inj hran)
      obtain rfl : ph = 0 := by omega
      obtain ⟨h0, _⟩ := hs
      have h0 : a.tmps.getD 157 undef = .pointer (some ⟨x, 0, .none⟩) := h0
      refine op_run rfl rfl (v := .pointer (some ⟨x, 0, .none⟩)) (w' := w1) ?_ rfl (Below.refl _ _)
      simp [execOp, Act.eval, h0, go_sem]
    · intro hne lo hi ph hran hp1 hp2 a w1 hJ hsz hs      -- 8: slot 159
      obtain ⟨rfl, rfl⟩ : 0 = lo ∧ 0 = hi := Prod.mk.inj (Option.some.inj hran)
      obtain rfl : ph = 0 := by omega
      obtain ⟨h0, _⟩ := hs
      have h0 : a.tmps.getD 158 undef = .pointer (some ⟨x, 0, .none⟩) := h0
      refine op_run rfl rfl (v := .pointer (some ⟨x, 2, .none⟩)) (w' := w1) ?_ rfl (Below.refl _ _)
      simp [execOp, Act.eval, h0, go_sem]
    · intro hne lo hi ph hran hp1 hp2 a w1 hJ hsz hs      -- 9: slot 160
      obtain ⟨rfl, rfl⟩ : 0 = lo ∧ 0 = hi := Prod.mk.inj (Option.some.inj hran)
      obtain rfl : ph = 0 := by omega
      obtain ⟨h0, _⟩ := hs
      have h0 : a.tmps.getD 159 undef = .pointer (some ⟨x, 2, .none⟩) := h0
      have c2 := (Below.cell (jUh_below 0 (by decide) hJ) (p := ⟨x, 2, .none⟩) HXS.out).trans HC2.out
      refine op_run rfl rfl (v := .slice (some ⟨bk, 0, .none⟩) 1 cap) (w' := w1) ?_ rfl (Below.refl _ _)
      simp [execOp, Act.eval, h0, c2, go_sem]
    · intro hne lo hi ph hran hp1 hp2 a w1 hJ hsz hs      -- 10: slot 161
      obtain ⟨rfl, rfl⟩ : 0 = lo ∧ 0 = hi := Prod.mk.inj (Option.some.inj hran)
      obtain rfl : ph = 0 := by omega
      obtain ⟨h0, _⟩ := hs
      have h0 : a.tmps.getD 8 undef = .int .i64 0 := h0
      refine op_run rfl rfl (v := .int .i64 0) (w' := w1) ?_ rfl (Below.refl _ _)
      simp [execOp, Act.eval, h0, go_sem]
    · intro hne lo hi ph hran hp1 hp2 a w1 hJ hsz hs      -- 11: slot 162
      obtain ⟨rfl, rfl⟩ : 0 = lo ∧ 0 = hi := Prod.mk.inj (Option.some.inj hran)
      obtain rfl : ph = 0 := by omega
      obtain ⟨h0, h1, _⟩ := hs
      have h0 : a.tmps.getD 160 undef = .slice (some ⟨bk, 0, .none⟩) 1 cap := h0
      have h1 : a.tmps.getD 161 undef = .int .i64 0 := h1
      refine op_run rfl rfl (v := .pointer (some ⟨bk, 0, .none⟩)) (w' := w1) ?_ rfl (Below.refl _ _)
      simp [execOp, Act.eval, h0, h1, go_sem]
    · intro hne lo hi ph hran hp1 hp2 a w1 hJ hsz hs      -- 12: slot 163
      obtain ⟨rfl, rfl⟩ : 0 = lo ∧ 0 = hi := Prod.mk.inj (Option.some.inj hran)
      obtain rfl : ph = 0 := by omega
      obtain ⟨h0, _⟩ := hs
      have h0 : a.tmps.getD 162 undef = .pointer (some ⟨bk, 0, .none⟩) := h0
      refine op_run rfl rfl (v := .pointer (some ⟨bk, 7, .none⟩)) (w' := w1) ?_ rfl (Below.refl _ _)
      simp [execOp, Act.eval, h0, go_sem]
    · intro hne lo hi ph hran hp1 hp2 a w1 hJ hsz hs      -- 13: slot 164
      obtain ⟨rfl, rfl⟩ : 0 = lo ∧ 0 = hi := Prod.mk.inj (Option.some.inj hran)
      obtain rfl : ph = 0 := by omega
      obtain ⟨h0, _⟩ := hs
      have h0 : a.tmps.getD 163 undef = .pointer (some ⟨bk, 7, .none⟩) := h0
      have c2 := (Below.cell (jUh_below 0 (by decide) hJ) (p := ⟨bk, 7, .none⟩) HBS.out).trans HC7.out
      refine op_run rfl rfl (v := .slice none 0 0) (w' := w1) ?_ rfl (Below.refl _ _)
      simp [execOp, Act.eval, h0, c2, go_sem]
    · intro hne lo hi ph hran hp1 hp2 a w1 hJ hsz hs      -- 14: slot 165
      obtain ⟨rfl, rfl⟩ : 0 = lo ∧ 0 = hi := Prod.mk.inj (Option.some.inj hran)
      obtain rfl : ph = 0 := by omega
      obtain ⟨h0, h1, _⟩ := hs
      obtain ⟨v0, e0, m0⟩ : ∃ v, a.tmps.getD 156 undef = v ∧ (rdRow ws.heap.size 0 []).p w1 v := ⟨_, rfl, h0⟩
      have h1 : a.tmps.getD 164 undef = .slice none 0 0 := h1
      obtain ⟨m0a, aa, nn, ca, rfl⟩ := m0
      have e0 : a.tmps[156]?.getD undef = .slice aa nn ca := by rw [← e0]; exact (Array.getD_eq_getD_getElem?).symm
      have h1 : a.tmps[164]?.getD undef = .slice none 0 0 := by rw [← h1]; exact (Array.getD_eq_getD_getElem?).symm
      refine op_run rfl rfl (v := .slice aa nn ca) (w' := w1) (exec_append (vs := .slice aa nn ca) (vx := .slice none 0 0) rfl ?_ ?_ (rdRow_none ⟨m0a, aa, nn, ca, rfl⟩)) ⟨m0a, aa, nn, ca, rfl⟩ (Below.refl _ _)
      · simp [Act.eval, e0]
      · simp [Act.eval, h1]
    · intro hne lo hi ph hran hp1 hp2 a w1 hJ hsz hs      -- 15: slot 166
      obtain ⟨rfl, rfl⟩ : 0 = lo ∧ 0 = hi := Prod.mk.inj (Option.some.inj hran)
      obtain rfl : ph = 0 := by omega
      obtain ⟨h0, _⟩ := hs
      have h0 : a.tmps.getD 5 undef = .pointer (some ⟨w.heap.size + 1, 0, .none⟩) := h0
      have hq := HRs.out.later (jUh_below 0 (by decide) hJ)
      have c : w1.cell? ⟨w.heap.size + 1, 0, .none⟩ = some (.int .i64 1) := hq.cell (i := 0) rfl
      have c' : w1.cell? ⟨w.heap.size + 1, 1, .none⟩ = some (.int .i64 0) := hq.cell (i := 1) rfl
      have c'' : w1.cell? ⟨w.heap.size + 1, 2, .none⟩ = some (.string ByteArray.empty) := hq.cell (i := 2) rfl
      have c''' : w1.cell? ⟨w.heap.size + 1, 3, .none⟩ = some (.slice (some ⟨y, 0, none⟩) 0 0) := hq.cell (i := 3) rfl
      refine op_run rfl rfl (v := .agg #[.int .i64 1, .int .i64 0, .string ByteArray.empty, .slice (some ⟨y, 0, none⟩) 0 0]) (w' := w1) ?_ rfl (Below.refl _ _)
      simp [execOp, Act.eval, h0, c, c', c'', c''', go_sem]
    · intro hne lo hi ph hran hp1 hp2 a w1 hJ hsz hs      -- 16: slot 167
      obtain ⟨rfl, rfl⟩ : 0 = lo ∧ 0 = hi := Prod.mk.inj (Option.some.inj hran)
      obtain rfl : ph = 0 := by omega
      obtain ⟨h0, _⟩ := hs
      have h0 : a.tmps.getD 166 undef = .agg #[.int .i64 1, .int .i64 0, .string ByteArray.empty, .slice (some ⟨y, 0, none⟩) 0 0] := h0
      have g0 : a.tmps[166]?.getD undef = .agg #[.int .i64 1, .int .i64 0, .string ByteArray.empty, .slice (some ⟨y, 0, none⟩) 0 0] := (Array.getD_eq_getD_getElem? ..).symm.trans h0
      refine op_run rfl rfl (v := .slice (some ⟨w1.heap.size, 0, .none⟩) 1 1) (w' := w1.alloc (.cells (rdcells y).toArray 94)) ?_ ⟨w1.heap.size, rfl, (MapKept.heap_alloc w1 _).1⟩ ((Below.refl _ _).alloc (Nat.le_refl _) _)
      have e0 : a.tmps[166]?.getD undef = .agg #[.int .i64 1, .int .i64 0, .string ByteArray.empty, .slice (some ⟨y, 0, none⟩) 0 0] := by rw [← h0]; exact (Array.getD_eq_getD_getElem?).symm
      simp [execOp, Act.eval, e0, go_sem, rdcells]
    · intro hne lo hi ph hran hp1 hp2 a w1 hJ hsz hs      -- 17: slot 168
      exact absurd (by decide) hne
    · intro hne lo hi ph hran hp1 hp2 a w1 hJ hsz hs      -- 18: slot 169
      obtain ⟨rfl, rfl⟩ : 0 = lo ∧ 1 = hi := Prod.mk.inj (Option.some.inj hran)
      rcases (by omega : ph = 0 ∨ ph = 1) with rfl | rfl
      · obtain ⟨h0, h1, _⟩ := hs
        have h0 : a.tmps.getD 154 undef = .slice (some ⟨bk, 0, .none⟩) 1 cap := h0
        have h1 : a.tmps.getD 155 undef = .int .i64 0 := h1
        refine op_run rfl rfl (v := .pointer (some ⟨bk, 0, .none⟩)) (w' := w1) ?_ rfl (Below.refl _ _)
        simp [execOp, Act.eval, h0, h1, go_sem]
      · obtain ⟨h0, h1, _⟩ := hs
        have h0 : a.tmps.getD 154 undef = .slice (some ⟨bk, 0, .none⟩) 1 cap := h0
        have h1 : a.tmps.getD 155 undef = .int .i64 0 := h1
        refine op_run rfl rfl (v := .pointer (some ⟨bk, 0, .none⟩)) (w' := w1) ?_ rfl (Below.refl _ _)
        simp [execOp, Act.eval, h0, h1, go_sem]
    · intro hne lo hi ph hran hp1 hp2 a w1 hJ hsz hs      -- 19: slot 170
      obtain ⟨rfl, rfl⟩ : 0 = lo ∧ 1 = hi := Prod.mk.inj (Option.some.inj hran)
      rcases (by omega : ph = 0 ∨ ph = 1) with rfl | rfl
      · obtain ⟨h0, _⟩ := hs
        have h0 : a.tmps.getD 169 undef = .pointer (some ⟨bk, 0, .none⟩) := h0
        refine op_run rfl rfl (v := .pointer (some ⟨bk, 7, .none⟩)) (w' := w1) ?_ rfl (Below.refl _ _)
        simp [execOp, Act.eval, h0, go_sem]
      · obtain ⟨h0, _⟩ := hs
        have h0 : a.tmps.getD 169 undef = .pointer (some ⟨bk, 0, .none⟩) := h0
        refine op_run rfl rfl (v := .pointer (some ⟨bk, 7, .none⟩)) (w' := w1) ?_ rfl (Below.refl _ _)
        simp [execOp, Act.eval, h0, go_sem]
    · intro hne lo hi ph hran hp1 hp2 a w1 hJ hsz hs      -- 20: slot None
      exact absurd (by decide) hne
  · show ∀ ph, ph < 2 → _
    iterate 2 (refine fls ?_ ?_)
    · exact fl0
    · intro i hi a w1 hJ hsz hs      -- heavy 0: op 17 slot 168
      obtain rfl : 17 = i := Option.some.inj hi
      obtain ⟨h0, h1, _⟩ := hs
      obtain ⟨v0, e0, m0⟩ : ∃ v, a.tmps.getD 165 undef = v ∧ (rdRow ws.heap.size 0 []).p w1 v := ⟨_, rfl, h0⟩
      obtain ⟨v1, e1, m1⟩ : ∃ v, a.tmps.getD 167 undef = v ∧ (rdNew y).p w1 v := ⟨_, rfl, h1⟩
      have hcalm : ∀ (wq1 wq2 : World) (kk : Nat) (v0 : Value), kk ≠ 17 → VL [cV (.pointer (some ⟨x, 0, .none⟩)), cV (.pointer (some ⟨x, 0, .none⟩)), cV (.pointer (some ⟨x, 2, .none⟩)), cV (.slice (some ⟨bk, 0, .none⟩) 1 cap), cV (.int .i64 0), rdRow ws.heap.size 0 [], cV (.pointer (some ⟨x, 0, .none⟩)), cV (.pointer (some ⟨x, 0, .none⟩)), cV (.pointer (some ⟨x, 2, .none⟩)), cV (.slice (some ⟨bk, 0, .none⟩) 1 cap), cV (.int .i64 0), cV (.pointer (some ⟨bk, 0, .none⟩)), cV (.pointer (some ⟨bk, 7, .none⟩)), cV (.slice none 0 0), rdRow ws.heap.size 0 [], cV (.agg #[.int .i64 1, .int .i64 0, .string ByteArray.empty, .slice (some ⟨y, 0, none⟩) 0 0]), rdNew y, rdRow ws.heap.size 1 (rdcells y), cV (.pointer (some ⟨bk, 0, .none⟩)), cV (.pointer (some ⟨bk, 7, .none⟩)), tV] kk wq1 v0 → VL [cV (.pointer (some ⟨x, 0, .none⟩)), cV (.pointer (some ⟨x, 0, .none⟩)), cV (.pointer (some ⟨x, 2, .none⟩)), cV (.slice (some ⟨bk, 0, .none⟩) 1 cap), cV (.int .i64 0), tV, cV (.pointer (some ⟨x, 0, .none⟩)), cV (.pointer (some ⟨x, 0, .none⟩)), cV (.pointer (some ⟨x, 2, .none⟩)), cV (.slice (some ⟨bk, 0, .none⟩) 1 cap), cV (.int .i64 0), cV (.pointer (some ⟨bk, 0, .none⟩)), cV (.pointer (some ⟨bk, 7, .none⟩)), cV (.slice none 0 0), tV, cV (.agg #[.int .i64 1, .int .i64 0, .string ByteArray.empty, .slice (some ⟨y, 0, none⟩) 0 0]), tV, rdRow ws.heap.size 1 (rdcells y), cV (.pointer (some ⟨bk, 0, .none⟩)), cV (.pointer (some ⟨bk, 7, .none⟩)), tV] kk wq2 v0 := Calm.all (n := 0) ⟨.inl ⟨_, rfl, rfl⟩, .inl ⟨_, rfl, rfl⟩, .inl ⟨_, rfl, rfl⟩, .inl ⟨_, rfl, rfl⟩, .inl ⟨_, rfl, rfl⟩, .inr (.inl rfl), .inl ⟨_, rfl, rfl⟩, .inl ⟨_, rfl, rfl⟩, .inl ⟨_, rfl, rfl⟩, .inl ⟨_, rfl, rfl⟩, .inl ⟨_, rfl, rfl⟩, .inl ⟨_, rfl, rfl⟩, .inl ⟨_, rfl, rfl⟩, .inl ⟨_, rfl, rfl⟩, .inr (.inl rfl), .inl ⟨_, rfl, rfl⟩, .inr (.inl rfl), .inr (.inr rfl), .inl ⟨_, rfl, rfl⟩, .inl ⟨_, rfl, rfl⟩, .inr (.inl rfl), trivial⟩
      obtain ⟨v', w', hr, hm, hb'⟩ := rdRow_one (jUh_below 0 (by decide) hJ) m0 m1
      refine hv_run rfl rfl (v := v') (w' := w') ?_ hm hb' (hcalm _ _)
      exact exec_append rfl (by simp [Act.eval, e0]) (by simp [Act.eval, e1]) hr
    · intro i hi a w1 hJ hsz hs      -- heavy 1: op 20 slot None
      obtain rfl : 20 = i := Option.some.inj hi
      obtain ⟨h0, h1, _⟩ := hs
      have h0 : a.tmps.getD 170 undef = .pointer (some ⟨bk, 7, .none⟩) := h0
      have g0 : a.tmps[170]?.getD undef = .pointer (some ⟨bk, 7, .none⟩) := (Array.getD_eq_getD_getElem? ..).symm.trans h0
      obtain ⟨v1, e1, m1⟩ : ∃ v, a.tmps.getD 168 undef = v ∧ (rdRow ws.heap.size 1 (rdcells y)).p w1 v := ⟨_, rfl, h1⟩
      have hcalm : ∀ (wq1 wq2 : World) (kk : Nat) (v0 : Value), kk ≠ 20 → VL [cV (.pointer (some ⟨x, 0, .none⟩)), cV (.pointer (some ⟨x, 0, .none⟩)), cV (.pointer (some ⟨x, 2, .none⟩)), cV (.slice (some ⟨bk, 0, .none⟩) 1 cap), cV (.int .i64 0), tV, cV (.pointer (some ⟨x, 0, .none⟩)), cV (.pointer (some ⟨x, 0, .none⟩)), cV (.pointer (some ⟨x, 2, .none⟩)), cV (.slice (some ⟨bk, 0, .none⟩) 1 cap), cV (.int .i64 0), cV (.pointer (some ⟨bk, 0, .none⟩)), cV (.pointer (some ⟨bk, 7, .none⟩)), cV (.slice none 0 0), tV, cV (.agg #[.int .i64 1, .int .i64 0, .string ByteArray.empty, .slice (some ⟨y, 0, none⟩) 0 0]), tV, rdRow ws.heap.size 1 (rdcells y), cV (.pointer (some ⟨bk, 0, .none⟩)), cV (.pointer (some ⟨bk, 7, .none⟩)), tV] kk wq1 v0 → VL [cV (.pointer (some ⟨x, 0, .none⟩)), cV (.pointer (some ⟨x, 0, .none⟩)), cV (.pointer (some ⟨x, 2, .none⟩)), cV (.slice (some ⟨bk, 0, .none⟩) 1 cap), cV (.int .i64 0), tV, cV (.pointer (some ⟨x, 0, .none⟩)), cV (.pointer (some ⟨x, 0, .none⟩)), cV (.pointer (some ⟨x, 2, .none⟩)), cV (.slice (some ⟨bk, 0, .none⟩) 1 cap), cV (.int .i64 0), cV (.pointer (some ⟨bk, 0, .none⟩)), cV (.pointer (some ⟨bk, 7, .none⟩)), cV (.slice none 0 0), tV, cV (.agg #[.int .i64 1, .int .i64 0, .string ByteArray.empty, .slice (some ⟨y, 0, none⟩) 0 0]), tV, tV, cV (.pointer (some ⟨bk, 0, .none⟩)), cV (.pointer (some ⟨bk, 7, .none⟩)), tV] kk wq2 v0 := Calm.all (n := 0) ⟨.inl ⟨_, rfl, rfl⟩, .inl ⟨_, rfl, rfl⟩, .inl ⟨_, rfl, rfl⟩, .inl ⟨_, rfl, rfl⟩, .inl ⟨_, rfl, rfl⟩, .inr (.inl rfl), .inl ⟨_, rfl, rfl⟩, .inl ⟨_, rfl, rfl⟩, .inl ⟨_, rfl, rfl⟩, .inl ⟨_, rfl, rfl⟩, .inl ⟨_, rfl, rfl⟩, .inl ⟨_, rfl, rfl⟩, .inl ⟨_, rfl, rfl⟩, .inl ⟨_, rfl, rfl⟩, .inr (.inl rfl), .inl ⟨_, rfl, rfl⟩, .inr (.inl rfl), .inr (.inl rfl), .inl ⟨_, rfl, rfl⟩, .inl ⟨_, rfl, rfl⟩, .inr (.inr rfl), trivial⟩
      obtain ⟨hown, aa, nn, ca, rfl⟩ := m1
      have hbb := jUh_below 1 (by decide) hJ
      refine hv_skip rfl rfl (w' := w1.setCell ⟨bk, 7, .none⟩ (.slice aa nn ca)) ?_ trivial (jUh_set hbb _) (hcalm _ _)
      have cc := (Below.cell hbb (p := ⟨bk, 7, .none⟩) HBS.out).trans HC7.out
      have cf : w1.frozen? ⟨bk, 7, .none⟩ = false := frozen_of_block (by rw [hbb.block bk HBS.out]; exact HBK.out) 7
      simp [execOp, Act.eval, h0, e1, go_sem, cc, cf]
  intro f w1 hJ hv
  try simp only [Exit.then]
  simp only [putAll, List.foldl_cons, List.foldl_nil, Option.getD_some, Act.put, List.setIfInBounds_toArray, List.set_cons_succ, List.set_cons_zero]
  clear hv
  have hbt : Bt ws w1 bk := hJ
  have hRF : RefV w1 x room (.slice (some ⟨bk, 0, .none⟩) 1 cap) := by unfold RefV; rw [hbt.block x HXS.out HXB.out]; exact HRV.out
  have c1 : w1.cell? ⟨x, 1, .none⟩ = some (.int .i64 0) := cell_of_block hRF rfl
  have f1 : w1.frozen? ⟨x, 1, .none⟩ = false := frozen_of_block hRF 1
  have HEND : Hid (∀ u, Bt w (w1.setCell ⟨x, 1, .none⟩ u) x) := Lib.hid fun u => (HEN.out w1 hbt).trans (Bt.set _ _ _ _)
  clear hJ hbt hRF
  go_wp2_with fail
  go_ret
  exact ⟨_, rfl, HEND.out _⟩
  -- END R29
  
-- END R28
end Go.Proofs.Ytgjdabneodkmpaa
