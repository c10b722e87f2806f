/- The law's deed: a store of the caller's own, and the document's own, empty. -/
import Derived.Test.YtgjdabneodkmpaaStRi
namespace Go.Proofs.Ytgjdabneodkmpaa
open Go.RowKit
set_option linter.unusedVariables false

/-- Marks that a heavy operation leaves alone, whatever they say, if they say it of no world. -/
def Calm3 (i : Nat) : Nat → List SV → List SV → Prop
  | _, [], _ => True
  | n, s :: r, s' :: r' => (n = i ∨ ∀ w1 w2 v, s.p w1 v → s'.p w2 v) ∧ Calm3 i (n + 1) r r'
  | _, _ :: _, [] => False
theorem Calm3.all' {i : Nat} : ∀ {L L' : List SV} {n : Nat}, Calm3 i n L L' → ∀ w1 w2 k v0, n + k ≠ i → VL L k w1 v0 → VL L' k w2 v0
  | [], _, _, _, w1, w2, k, v0, _, h => by simp [VL] at h
  | s :: r, [], _, hc, _, _, _, _, _, _ => hc.elim
  | s :: r, s' :: r', n, hc, w1, w2, 0, v0, hne, h => by
    obtain ⟨h1, _⟩ := hc
    rcases h1 with h1 | h1
    · exact absurd h1 hne
    · exact h1 _ _ _ h
  | s :: r, s' :: r', n, hc, w1, w2, k + 1, v0, hne, h => by
    have := Calm3.all' hc.2 w1 w2 k v0 (by omega) (by simpa [VL] using h)
    simpa [VL] using this
theorem Calm3.all {i n : Nat} {L L' : List SV} (h : Calm3 i n L L') (hn : n = 0 := by rfl) : ∀ w1 w2 k v0, k ≠ i → VL L k w1 v0 → VL L' k w2 v0 := fun w1 w2 k v0 hk hv => by
  subst hn
  exact Calm3.all' h w1 w2 k v0 (by omega) hv
def jP (w0 wr : World) (b : Nat) (room : Int) (n : Nat) (g : Gh) : Nat → World → Prop
  | 0, w => Below wr.heap.size wr w
  | 1, w => Acted w0 b room n wr g w
  | _, w => ∃ g' S', NSto w0 w b g' S' ∧ RI S' room (n + 1)
theorem jP_st {w0 wr : World} {b : Nat} {room : Int} {n : Nat} {g : Gh} (ph : Nat) {w w' : World} (h : jP w0 wr b room n g ph w) (hb : Below w.heap.size w w') : jP w0 wr b room n g ph w' := by
  match ph, h with
  | 0, h => exact Below.trans h (hb.mono h.size)
  | 1, h => obtain ⟨g', S', h1, h2, h3⟩ := h; exact ⟨g', S', h1.later hb, h2, h3.later hb⟩
  | k + 2, h => obtain ⟨g', S', h1, h2⟩ := h; exact ⟨g', S', h1.later hb, h2⟩
theorem jP_keep {w0 wr w : World} {b : Nat} {room : Int} {n : Nat} {g : Gh} (ph : Nat) (hp : ph ≤ 1) (h : jP w0 wr b room n g ph w) : ∀ y, y < wr.heap.size → free (g.r y) → w.heap[y]? = wr.heap[y]? := by
  match ph, hp, h with
  | 0, _, h => exact fun y hy _ => h.block y hy
  | 1, _, h => obtain ⟨g', S', h1, h2, h3⟩ := h; exact h3.block
theorem RecAt.held {w w' : World} {x : Nat} {cs : Array Value} {t : TypeId} (h : RecAt w x cs t) (he : w'.heap[x]? = w.heap[x]?) : RecAt w' x cs t := by unfold RecAt at *; rw [he]; exact h
theorem KeyAt.held {w w' : World} {x : Nat} {k : K4} (h : KeyAt w x k) (he : w'.heap[x]? = w.heap[x]?) : KeyAt w' x k := by unfold KeyAt at *; rw [he]; exact h
theorem RefAt.held {w w' : World} {x : Nat} {room : Int} (h : RefAt w x room) (he : w'.heap[x]? = w.heap[x]?) : RefAt w' x room := by unfold RefAt at *; rw [he]; exact h
def bV1 : SV := ⟨fun _ v => ∃ c, v = .bool c, fun _ _ _ h _ => h⟩
def iV : SV := ⟨fun _ v => ∃ c, v = .int .i64 c, fun _ _ _ h _ => h⟩
/-- What a deed leaves. -/
def Deeded (w0 : World) (b : Nat) (room : Int) (n : Nat) (e : Ending) (w' : World) : Prop := (∃ v, e = .returned (.bool v)) ∧ ∃ g' S', NSto w0 w' b g' S' ∧ RI S' room (n + 1)
theorem jP_one {w0 wr w w' : World} {b : Nat} {room : Int} {n : Nat} {g : Gh} (hb : Below wr.heap.size wr w) (h : Acted w0 b room n w g w') : jP w0 wr b room n g 1 w' := by
  obtain ⟨g', S', h1, h2, h3⟩ := h
  exact ⟨g', S', h1, h2, (Jk.of_below hb g.r).trans h3⟩
theorem jP_two {w0 wr w w' : World} {b x : Nat} {room : Int} {n : Nat} {g : Gh} (h : jP w0 wr b room n g 1 w) (hx : g.r x = .own) (hlt : x < wr.heap.size) (hb : Bt w w' x) : jP w0 wr b room n g 2 w' := by
  obtain ⟨g', S', h1, h2, h3⟩ := h
  exact ⟨g', S', h1.besides hb (by rw [h3.role x hlt (.inr hx)]; exact hx), h2⟩

set_option maxRecDepth 20000 in
theorem deed_4 (w0 w : World) (b x : Nat) (g : Gh) (S : St) (room : Int) (n : Nat) (h : NSto w0 w b g S) (hl : RI S room n) (hn : n ≤ 900) (hx : RefAt w x 0) (hxo : g.r x = .own) (A : ActP) (hraw : A.raw = false) (hwh : A.what = 4) (l : List UInt8) (hr : Row w0 A.pa A.pc l) (hlen : l.length = A.pl) (hm6 : A.pl ≤ 60) (hnm : A.nm.size ≤ 30) (hof : -9223372036854775808 ≤ A.off ∧ A.off ≤ 9223372036854775807) :
    Calls Try.prog 20 #[.pointer (some ⟨b, 0, .none⟩), .pointer (some ⟨x, 0, .none⟩), .agg A.cs] w fun e w' => Deeded w0 b room n e w' := by
  obtain ⟨wh, wi, off, nq, raw, ⟨ka, kb, kc, kd⟩, pa, pl, pc, nm, qa, ql, qc⟩ := A
  simp only at hraw hwh hr hlen hm6 hnm hof
  subst hraw hwh
  obtain ⟨cs, hcs⟩ : ∃ cs, (⟨4, wi, off, nq, false, ⟨ka, kb, kc, kd⟩, pa, pl, pc, nm, qa, ql, qc⟩ : ActP).cs = cs := ⟨_, rfl⟩
  have HA := Lib.hid (fun W => key_any ⟨4, wi, off, nq, false, ⟨ka, kb, kc, kd⟩, pa, pl, pc, nm, qa, ql, qc⟩ rfl W)
  obtain ⟨w1, hwe⟩ : ∃ w1, w.alloc (.cells cs 44) = w1 := ⟨_, rfl⟩
  have hb1 : Below w.heap.size w w1 := by rw [← hwe]; exact (Below.refl _ _).alloc (Nat.le_refl _) _
  have hR1 : RecAt w1 w.heap.size cs 44 := by rw [← hwe]; exact RecAt.new _ _ _
  have hj1 : g.r w.heap.size = .junk := h.sto.dom _ (Nat.le_refl _)
  rw [hcs] at HA
  subst hcs
  unfold ActP.cs at HA hR1 hwe ⊢
  simp only at HA hR1 hwe ⊢
  have r0 := hR1.cell (i := 0) rfl
  have r1 := hR1.cell (i := 1) rfl
  have r2 := hR1.cell (i := 2) rfl
  have r3 := hR1.cell (i := 3) rfl
  have r4 := hR1.cell (i := 4) rfl
  have r5 := hR1.cell (i := 5) rfl
  have r6 := hR1.cell (i := 6) rfl
  have r7 := hR1.cell (i := 7) rfl
  have r8 := hR1.cell (i := 8) rfl
  have r9 := hR1.cell (i := 9) rfl
  have r10 := hR1.cell (i := 10) rfl
  have r11 := hR1.cell (i := 11) rfl
  have HR1 := Lib.hid hR1
  have H1 := Lib.hid (h.later hb1)
  have HX1 := Lib.hid (hx.later hb1)
  have HB1 := Lib.hid hb1
  clear h hx hb1 hR1
  go_enter Try.func20, Try.ntmps20
  go_upto_region 1 with fail
  clear hwe
  go_wp2_with fail
  refine (HA.out w1).mono ?_
  rintro e w2 ⟨q, hq, rfl, hb2⟩
  have HR2 := Lib.hid (HR1.out.later hb2)
  have H2 := Lib.hid (H1.out.later hb2)
  have HX2 := Lib.hid (HX1.out.later hb2)
  clear r0 r1 r2 r3 r4 r5 r6 r7 r8 r9 r10 r11 HA HR1 H1 HX1
  obtain ⟨k, hk⟩ : ∃ k, keyW q = k := ⟨_, rfl⟩
  obtain ⟨z, hz⟩ : ∃ z, w2.heap.size = z := ⟨_, rfl⟩
  rw [hk]
  obtain ⟨wr, hwe⟩ : ∃ wr, w2.alloc (.cells #[.int .i64 k.a, .int .i64 k.b, .int .i64 k.c, .int .i64 k.d] 27) = wr := ⟨_, rfl⟩
  have hb3 : Below w2.heap.size w2 wr := by rw [← hwe]; exact (Below.refl _ _).alloc (Nat.le_refl _) _
  have hKr : KeyAt wr w2.heap.size k := by rw [← hwe]; exact KeyAt.new w2 k
  rw [hz] at hKr
  have hzj : g.r z = .junk := by rw [← hz]; exact H2.out.sto.dom _ (Nat.le_refl _)
  have hRr := HR2.out.later hb3
  have d0 : wr.cell? ⟨w.heap.size, 0, .none⟩ = some (.int .i64 4) := hRr.cell (i := 0) rfl
  have HRr := Lib.hid hRr
  have HKr := Lib.hid hKr
  have Hr := Lib.hid (H2.out.later hb3)
  have HXr := Lib.hid (HX2.out.later hb3)
  have HROW := Lib.hid (fun w' (g' : Gh) (S' : St) (h' : NSto w0 w' b g' S') => hr.later h'.below)
  clear hb2 hb3 hKr hRr HR2 H2 HX2 hr
  unfold kv
  go_upto_region 2 with fail
  clear hwe hz
  go_upto_region 12 with fail
-- REG J12
  refine wp_region_ptab (L := fun ph => match ph with | 0 => [cV (.pointer (some ⟨b, 0, .none⟩)), cV (.agg #[.int .i64 k.a, .int .i64 k.b, .int .i64 k.c, .int .i64 k.d]), nV, cV (.pointer (some ⟨x, 0, .none⟩)), cV (.agg #[.int .i64 k.a, .int .i64 k.b, .int .i64 k.c, .int .i64 k.d]), cV (rdV 4 0 ByteArray.empty (.slice none 0 0)), nV, nV, nV] | 1 => [cV (.pointer (some ⟨b, 0, .none⟩)), cV (.agg #[.int .i64 k.a, .int .i64 k.b, .int .i64 k.c, .int .i64 k.d]), iV, cV (.pointer (some ⟨x, 0, .none⟩)), cV (.agg #[.int .i64 k.a, .int .i64 k.b, .int .i64 k.c, .int .i64 k.d]), cV (rdV 4 0 ByteArray.empty (.slice none 0 0)), nV, nV, nV] | _ => [cV (.pointer (some ⟨b, 0, .none⟩)), cV (.agg #[.int .i64 k.a, .int .i64 k.b, .int .i64 k.c, .int .i64 k.d]), iV, cV (.pointer (some ⟨x, 0, .none⟩)), cV (.agg #[.int .i64 k.a, .int .i64 k.b, .int .i64 k.c, .int .i64 k.d]), cV (rdV 4 0 ByteArray.empty (.slice none 0 0)), iV, bV1, bV1]) (jP w0 wr b room n g) [2, 6] [(0, 0), (0, 0), (0, 2), (0, 1), (0, 1), (0, 1), (0, 2), (2, 2), (2, 2)] [[(0, none)], [(7, none)], [(78, some 0), (79, some 1)], [(1, none)], [(7, none)], [], [(81, some 3), (82, some 4), (83, some 5)], [(80, some 2), (84, some 6)], [(85, some 7)]] 9 2 211 (by kernel_rfl) rfl rfl rfl (by kernel_rfl) (by kernel_rfl) (by decide) (by kernel_rfl) ?_ ?_ ?_ ?_ ?_
  · exact fun ph w1 w2 h hb => jP_st ph h hb
  · exact Below.refl _ _
  · show ∀ i, i < 9 → _
    iterate 9 (refine fls ?_ ?_)
    · exact fl0
    · intro hne lo hi ph hran hp1 hp2 a w1 hJ hsz hs      -- 0: slot 78
      obtain ⟨rfl, rfl⟩ : 0 = lo ∧ 0 = hi := Prod.mk.inj (Option.some.inj hran)
      obtain rfl : ph = 0 := by omega
      obtain ⟨h0, _⟩ := hs
      have h0 : a.tmps.getD 0 undef = .pointer (some ⟨b, 0, .none⟩) := h0
      refine op_run rfl rfl (v := .pointer (some ⟨b, 0, .none⟩)) (w' := w1) ?_ rfl (Below.refl _ _)
      simp [execOp, Act.eval, h0, go_sem]
    · intro hne lo hi ph hran hp1 hp2 a w1 hJ hsz hs      -- 1: slot 79
      obtain ⟨rfl, rfl⟩ : 0 = lo ∧ 0 = hi := Prod.mk.inj (Option.some.inj hran)
      obtain rfl : ph = 0 := by omega
      obtain ⟨h0, _⟩ := hs
      have h0 : a.tmps.getD 7 undef = .pointer (some ⟨z, 0, .none⟩) := h0
      obtain ⟨c, c', c'', c'''⟩ := KeyAt.cells (HKr.out.held (jP_keep 0 (by decide) hJ z HKr.out.lt (.inl hzj)))
      refine op_run rfl rfl (v := .agg #[.int .i64 k.a, .int .i64 k.b, .int .i64 k.c, .int .i64 k.d]) (w' := w1) ?_ rfl (Below.refl _ _)
      simp [execOp, Act.eval, h0, c, c', c'', c''', go_sem]
    · intro hne lo hi ph hran hp1 hp2 a w1 hJ hsz hs      -- 2: slot 80
      exact absurd (by decide) hne
    · intro hne lo hi ph hran hp1 hp2 a w1 hJ hsz hs      -- 3: slot 81
      obtain ⟨rfl, rfl⟩ : 0 = lo ∧ 1 = hi := Prod.mk.inj (Option.some.inj hran)
      rcases (by omega : ph = 0 ∨ ph = 1) with rfl | rfl
      · obtain ⟨h0, _⟩ := hs
        have h0 : a.tmps.getD 1 undef = .pointer (some ⟨x, 0, .none⟩) := h0
        refine op_run rfl rfl (v := .pointer (some ⟨x, 0, .none⟩)) (w' := w1) ?_ rfl (Below.refl _ _)
        simp [execOp, Act.eval, h0, go_sem]
      · obtain ⟨h0, _⟩ := hs
        have h0 : a.tmps.getD 1 undef = .pointer (some ⟨x, 0, .none⟩) := h0
        refine op_run rfl rfl (v := .pointer (some ⟨x, 0, .none⟩)) (w' := w1) ?_ rfl (Below.refl _ _)
        simp [execOp, Act.eval, h0, go_sem]
    · intro hne lo hi ph hran hp1 hp2 a w1 hJ hsz hs      -- 4: slot 82
      obtain ⟨rfl, rfl⟩ : 0 = lo ∧ 1 = hi := Prod.mk.inj (Option.some.inj hran)
      rcases (by omega : ph = 0 ∨ ph = 1) with rfl | rfl
      · obtain ⟨h0, _⟩ := hs
        have h0 : a.tmps.getD 7 undef = .pointer (some ⟨z, 0, .none⟩) := h0
        obtain ⟨c, c', c'', c'''⟩ := KeyAt.cells (HKr.out.held (jP_keep 0 (by decide) hJ z HKr.out.lt (.inl hzj)))
        refine op_run rfl rfl (v := .agg #[.int .i64 k.a, .int .i64 k.b, .int .i64 k.c, .int .i64 k.d]) (w' := w1) ?_ rfl (Below.refl _ _)
        simp [execOp, Act.eval, h0, c, c', c'', c''', go_sem]
      · obtain ⟨h0, _⟩ := hs
        have h0 : a.tmps.getD 7 undef = .pointer (some ⟨z, 0, .none⟩) := h0
        obtain ⟨c, c', c'', c'''⟩ := KeyAt.cells (HKr.out.held (jP_keep 1 (by decide) hJ z HKr.out.lt (.inl hzj)))
        refine op_run rfl rfl (v := .agg #[.int .i64 k.a, .int .i64 k.b, .int .i64 k.c, .int .i64 k.d]) (w' := w1) ?_ rfl (Below.refl _ _)
        simp [execOp, Act.eval, h0, c, c', c'', c''', go_sem]
    · intro hne lo hi ph hran hp1 hp2 a w1 hJ hsz hs      -- 5: slot 83
      obtain ⟨rfl, rfl⟩ : 0 = lo ∧ 1 = hi := Prod.mk.inj (Option.some.inj hran)
      rcases (by omega : ph = 0 ∨ ph = 1) with rfl | rfl
      · refine op_run rfl rfl (v := rdV 4 0 ByteArray.empty (.slice none 0 0)) (w' := w1) ?_ rfl (Below.refl _ _)
        simp [execOp, Act.eval, rdV, go_sem]
        rfl
      · refine op_run rfl rfl (v := rdV 4 0 ByteArray.empty (.slice none 0 0)) (w' := w1) ?_ rfl (Below.refl _ _)
        simp [execOp, Act.eval, rdV, go_sem]
        rfl
    · intro hne lo hi ph hran hp1 hp2 a w1 hJ hsz hs      -- 6: slot 84
      exact absurd (by decide) hne
    · intro hne lo hi ph hran hp1 hp2 a w1 hJ hsz hs      -- 7: slot 85
      obtain ⟨rfl, rfl⟩ : 2 = lo ∧ 2 = hi := Prod.mk.inj (Option.some.inj hran)
      obtain rfl : ph = 2 := by omega
      obtain ⟨h0, h1, _⟩ := hs
      obtain ⟨v0, e0, q0, m0⟩ : ∃ v, a.tmps.getD 80 undef = v ∧ iV.p w1 v := ⟨_, rfl, h0⟩
      obtain ⟨v1, e1, q1, m1⟩ : ∃ v, a.tmps.getD 84 undef = v ∧ iV.p w1 v := ⟨_, rfl, h1⟩
      subst m0 m1
      have e0 : a.tmps[80]?.getD undef = .int .i64 q0 := by rw [← e0]; exact (Array.getD_eq_getD_getElem?).symm
      have e1 : a.tmps[84]?.getD undef = .int .i64 q1 := by rw [← e1]; exact (Array.getD_eq_getD_getElem?).symm
      refine op_run rfl rfl (v := .bool (q0 == q1)) (w' := w1) ?_ ⟨_, rfl⟩ (Below.refl _ _)
      simp [execOp, Act.eval, e0, e1, go_sem]
    · intro hne lo hi ph hran hp1 hp2 a w1 hJ hsz hs      -- 8: slot 6
      obtain ⟨rfl, rfl⟩ : 2 = lo ∧ 2 = hi := Prod.mk.inj (Option.some.inj hran)
      obtain rfl : ph = 2 := by omega
      obtain ⟨h0, _⟩ := hs
      obtain ⟨v0, e0, q0, m0⟩ : ∃ v, a.tmps.getD 85 undef = v ∧ bV1.p w1 v := ⟨_, rfl, h0⟩
      subst m0
      have e0 : a.tmps[85]?.getD undef = .bool q0 := by rw [← e0]; exact (Array.getD_eq_getD_getElem?).symm
      refine op_run rfl rfl (v := .bool q0) (w' := w1) ?_ ⟨_, rfl⟩ (Below.refl _ _)
      simp [execOp, Act.eval, e0, go_sem]
  · show ∀ ph, ph < 2 → _
    iterate 2 (refine fls ?_ ?_)
    · exact fl0
    · intro i hi a w1 hJ hsz hs      -- heavy 0: op 2 slot 80
      obtain rfl : 2 = i := Option.some.inj hi
      obtain ⟨h0, h1, _⟩ := hs
      have h0 : a.tmps.getD 78 undef = .pointer (some ⟨b, 0, .none⟩) := h0
      have h1 : a.tmps.getD 79 undef = .agg #[.int .i64 k.a, .int .i64 k.b, .int .i64 k.c, .int .i64 k.d] := h1
      have hcalm : ∀ (wq1 wq2 : World) (kk : Nat) (v0 : Value), kk ≠ 2 → VL [cV (.pointer (some ⟨b, 0, .none⟩)), cV (.agg #[.int .i64 k.a, .int .i64 k.b, .int .i64 k.c, .int .i64 k.d]), nV, cV (.pointer (some ⟨x, 0, .none⟩)), cV (.agg #[.int .i64 k.a, .int .i64 k.b, .int .i64 k.c, .int .i64 k.d]), cV (rdV 4 0 ByteArray.empty (.slice none 0 0)), nV, nV, nV] kk wq1 v0 → VL [cV (.pointer (some ⟨b, 0, .none⟩)), cV (.agg #[.int .i64 k.a, .int .i64 k.b, .int .i64 k.c, .int .i64 k.d]), iV, cV (.pointer (some ⟨x, 0, .none⟩)), cV (.agg #[.int .i64 k.a, .int .i64 k.b, .int .i64 k.c, .int .i64 k.d]), cV (rdV 4 0 ByteArray.empty (.slice none 0 0)), nV, nV, nV] kk wq2 v0 := Calm3.all (n := 0) ⟨.inr fun _ _ _ h => h, .inr fun _ _ _ h => h, .inl rfl, .inr fun _ _ _ h => h, .inr fun _ _ _ h => h, .inr fun _ _ _ h => h, .inr fun _ _ _ h => h.elim, .inr fun _ _ _ h => h.elim, .inr fun _ _ _ h => h.elim, trivial⟩
      refine hv_call rfl rfl (f := 28) (args := #[.pointer (some ⟨b, 0, .none⟩), .agg #[.int .i64 k.a, .int .i64 k.b, .int .i64 k.c, .int .i64 k.d]]) (by simp [execOp, Act.eval, resolve, h0, h1, go_sem]) ?_
      have hJ0 : Below wr.heap.size wr w1 := hJ
      have hop := drop_ri (Hr.out.later hJ0) hl hn hq
      rw [hk] at hop
      unfold kv at hop
      refine hop.mono ?_
      rintro e w' ⟨⟨c, rfl⟩, hac⟩
      exact ⟨_, rfl, ⟨c, rfl⟩, jP_one hJ0 hac, hcalm _ _⟩
    · intro i hi a w1 hJ hsz hs      -- heavy 1: op 6 slot 84
      obtain rfl : 6 = i := Option.some.inj hi
      obtain ⟨h0, h1, h2, _⟩ := hs
      have h0 : a.tmps.getD 81 undef = .pointer (some ⟨x, 0, .none⟩) := h0
      have h1 : a.tmps.getD 82 undef = .agg #[.int .i64 k.a, .int .i64 k.b, .int .i64 k.c, .int .i64 k.d] := h1
      have h2 : a.tmps.getD 83 undef = rdV 4 0 ByteArray.empty (.slice none 0 0) := h2
      have hcalm : ∀ (wq1 wq2 : World) (kk : Nat) (v0 : Value), kk ≠ 6 → VL [cV (.pointer (some ⟨b, 0, .none⟩)), cV (.agg #[.int .i64 k.a, .int .i64 k.b, .int .i64 k.c, .int .i64 k.d]), iV, cV (.pointer (some ⟨x, 0, .none⟩)), cV (.agg #[.int .i64 k.a, .int .i64 k.b, .int .i64 k.c, .int .i64 k.d]), cV (rdV 4 0 ByteArray.empty (.slice none 0 0)), nV, nV, nV] kk wq1 v0 → VL [cV (.pointer (some ⟨b, 0, .none⟩)), cV (.agg #[.int .i64 k.a, .int .i64 k.b, .int .i64 k.c, .int .i64 k.d]), iV, cV (.pointer (some ⟨x, 0, .none⟩)), cV (.agg #[.int .i64 k.a, .int .i64 k.b, .int .i64 k.c, .int .i64 k.d]), cV (rdV 4 0 ByteArray.empty (.slice none 0 0)), iV, bV1, bV1] kk wq2 v0 := Calm3.all (n := 0) ⟨.inr fun _ _ _ h => h, .inr fun _ _ _ h => h, .inr fun _ _ _ h => h, .inr fun _ _ _ h => h, .inr fun _ _ _ h => h, .inr fun _ _ _ h => h, .inl rfl, .inr fun _ _ _ h => h.elim, .inr fun _ _ _ h => h.elim, trivial⟩
      refine hv_call rfl rfl (f := 48) (args := #[.pointer (some ⟨x, 0, .none⟩), .agg #[.int .i64 k.a, .int .i64 k.b, .int .i64 k.c, .int .i64 k.d], rdV 4 0 ByteArray.empty (.slice none 0 0)]) (by simp [execOp, Act.eval, resolve, h0, h1, h2, go_sem]) ?_
      have hRF := HXr.out.held (jP_keep 1 (by decide) hJ x HXr.out.lt (.inr hxo))
      have hop := rdo_no w1 x 0 hRF k (by rw [← hk]; exact keyW_right hq) 4 0 ByteArray.empty none 0 0 rfl
      unfold kv at hop
      refine hop.mono ?_
      rintro e w' ⟨rfl, hbb⟩
      exact ⟨_, rfl, ⟨_, rfl⟩, jP_two hJ hxo HXr.out.lt (Bt.of_below hbb x), hcalm _ _⟩
  intro f w1 hJ hv
  try simp only [Exit.then]
  simp only [putAll, List.foldl_cons, List.foldl_nil, Option.getD_some, Act.put, List.setIfInBounds_toArray, List.set_cons_succ, List.set_cons_zero]
  obtain ⟨qv, e6⟩ : ∃ c, f 6 = .bool c := hv 8 _ 6 rfl rfl
  clear hv
  have HST : Hid (∃ g' S', NSto w0 w1 b g' S' ∧ RI S' room (n + 1)) := Lib.hid hJ
  clear hJ
  rw [e6]
  go_wp2_with fail
  go_ret
  exact ⟨⟨_, rfl⟩, HST.out⟩
-- END J12

set_option maxRecDepth 20000 in
theorem deed_0 (w0 w : World) (b x : Nat) (g : Gh) (S : St) (room : Int) (n : Nat) (h : NSto w0 w b g S) (hl : RI S room n) (hn : n ≤ 900) (hx : RefAt w x 0) (hxo : g.r x = .own) (A : ActP) (hraw : A.raw = false) (hwh : A.what = 0) (l : List UInt8) (hr : Row w0 A.pa A.pc l) (hlen : l.length = A.pl) (hm6 : A.pl ≤ 60) (hnm : A.nm.size ≤ 30) (hof : -9223372036854775808 ≤ A.off ∧ A.off ≤ 9223372036854775807) :
    Calls Try.prog 20 #[.pointer (some ⟨b, 0, .none⟩), .pointer (some ⟨x, 0, .none⟩), .agg A.cs] w fun e w' => Deeded w0 b room n e w' := by
  obtain ⟨wh, wi, off, nq, raw, ⟨ka, kb, kc, kd⟩, pa, pl, pc, nm, qa, ql, qc⟩ := A
  simp only at hraw hwh hr hlen hm6 hnm hof
  subst hraw hwh
  obtain ⟨cs, hcs⟩ : ∃ cs, (⟨0, wi, off, nq, false, ⟨ka, kb, kc, kd⟩, pa, pl, pc, nm, qa, ql, qc⟩ : ActP).cs = cs := ⟨_, rfl⟩
  have HA := Lib.hid (fun W => key_any ⟨0, wi, off, nq, false, ⟨ka, kb, kc, kd⟩, pa, pl, pc, nm, qa, ql, qc⟩ rfl W)
  obtain ⟨w1, hwe⟩ : ∃ w1, w.alloc (.cells cs 44) = w1 := ⟨_, rfl⟩
  have hb1 : Below w.heap.size w w1 := by rw [← hwe]; exact (Below.refl _ _).alloc (Nat.le_refl _) _
  have hR1 : RecAt w1 w.heap.size cs 44 := by rw [← hwe]; exact RecAt.new _ _ _
  have hj1 : g.r w.heap.size = .junk := h.sto.dom _ (Nat.le_refl _)
  rw [hcs] at HA
  subst hcs
  unfold ActP.cs at HA hR1 hwe ⊢
  simp only at HA hR1 hwe ⊢
  have r0 := hR1.cell (i := 0) rfl
  have r1 := hR1.cell (i := 1) rfl
  have r2 := hR1.cell (i := 2) rfl
  have r3 := hR1.cell (i := 3) rfl
  have r4 := hR1.cell (i := 4) rfl
  have r5 := hR1.cell (i := 5) rfl
  have r6 := hR1.cell (i := 6) rfl
  have r7 := hR1.cell (i := 7) rfl
  have r8 := hR1.cell (i := 8) rfl
  have r9 := hR1.cell (i := 9) rfl
  have r10 := hR1.cell (i := 10) rfl
  have r11 := hR1.cell (i := 11) rfl
  have HR1 := Lib.hid hR1
  have H1 := Lib.hid (h.later hb1)
  have HX1 := Lib.hid (hx.later hb1)
  have HB1 := Lib.hid hb1
  clear h hx hb1 hR1
  go_enter Try.func20, Try.ntmps20
  go_upto_region 1 with fail
  clear hwe
  go_wp2_with fail
  refine (HA.out w1).mono ?_
  rintro e w2 ⟨q, hq, rfl, hb2⟩
  have HR2 := Lib.hid (HR1.out.later hb2)
  have H2 := Lib.hid (H1.out.later hb2)
  have HX2 := Lib.hid (HX1.out.later hb2)
  clear r0 r1 r2 r3 r4 r5 r6 r7 r8 r9 r10 r11 HA HR1 H1 HX1
  obtain ⟨k, hk⟩ : ∃ k, keyW q = k := ⟨_, rfl⟩
  obtain ⟨z, hz⟩ : ∃ z, w2.heap.size = z := ⟨_, rfl⟩
  rw [hk]
  obtain ⟨wr, hwe⟩ : ∃ wr, w2.alloc (.cells #[.int .i64 k.a, .int .i64 k.b, .int .i64 k.c, .int .i64 k.d] 27) = wr := ⟨_, rfl⟩
  have hb3 : Below w2.heap.size w2 wr := by rw [← hwe]; exact (Below.refl _ _).alloc (Nat.le_refl _) _
  have hKr : KeyAt wr w2.heap.size k := by rw [← hwe]; exact KeyAt.new w2 k
  rw [hz] at hKr
  have hzj : g.r z = .junk := by rw [← hz]; exact H2.out.sto.dom _ (Nat.le_refl _)
  have hRr := HR2.out.later hb3
  have d0 : wr.cell? ⟨w.heap.size, 0, .none⟩ = some (.int .i64 0) := hRr.cell (i := 0) rfl
  have HRr := Lib.hid hRr
  have HKr := Lib.hid hKr
  have Hr := Lib.hid (H2.out.later hb3)
  have HXr := Lib.hid (HX2.out.later hb3)
  have HROW := Lib.hid (fun w' (g' : Gh) (S' : St) (h' : NSto w0 w' b g' S') => hr.later h'.below)
  clear hb2 hb3 hKr hRr HR2 H2 HX2 hr
  unfold kv
  go_upto_region 2 with fail
  clear hwe hz
  go_upto_region 4 with fail
-- REG J4
  refine wp_region_ptab (L := fun ph => match ph with | 0 => [cV (.pointer (some ⟨b, 0, .none⟩)), cV (.agg #[.int .i64 k.a, .int .i64 k.b, .int .i64 k.c, .int .i64 k.d]), nV, cV (.pointer (some ⟨x, 0, .none⟩)), cV (.agg #[.int .i64 k.a, .int .i64 k.b, .int .i64 k.c, .int .i64 k.d]), cV (rdV 1 0 ByteArray.empty (.slice none 0 0)), nV, nV, nV] | 1 => [cV (.pointer (some ⟨b, 0, .none⟩)), cV (.agg #[.int .i64 k.a, .int .i64 k.b, .int .i64 k.c, .int .i64 k.d]), iV, cV (.pointer (some ⟨x, 0, .none⟩)), cV (.agg #[.int .i64 k.a, .int .i64 k.b, .int .i64 k.c, .int .i64 k.d]), cV (rdV 1 0 ByteArray.empty (.slice none 0 0)), nV, nV, nV] | _ => [cV (.pointer (some ⟨b, 0, .none⟩)), cV (.agg #[.int .i64 k.a, .int .i64 k.b, .int .i64 k.c, .int .i64 k.d]), iV, cV (.pointer (some ⟨x, 0, .none⟩)), cV (.agg #[.int .i64 k.a, .int .i64 k.b, .int .i64 k.c, .int .i64 k.d]), cV (rdV 1 0 ByteArray.empty (.slice none 0 0)), iV, bV1, bV1]) (jP w0 wr b room n g) [2, 6] [(0, 0), (0, 0), (0, 2), (0, 1), (0, 1), (0, 1), (0, 2), (2, 2), (2, 2)] [[(0, none)], [(7, none)], [(22, some 0), (23, some 1)], [(1, none)], [(7, none)], [], [(25, some 3), (26, some 4), (27, some 5)], [(24, some 2), (28, some 6)], [(29, some 7)]] 9 2 211 (by kernel_rfl) rfl rfl rfl (by kernel_rfl) (by kernel_rfl) (by decide) (by kernel_rfl) ?_ ?_ ?_ ?_ ?_
  · exact fun ph w1 w2 h hb => jP_st ph h hb
  · exact Below.refl _ _
  · show ∀ i, i < 9 → _
    iterate 9 (refine fls ?_ ?_)
    · exact fl0
    · intro hne lo hi ph hran hp1 hp2 a w1 hJ hsz hs      -- 0: slot 22
      obtain ⟨rfl, rfl⟩ : 0 = lo ∧ 0 = hi := Prod.mk.inj (Option.some.inj hran)
      obtain rfl : ph = 0 := by omega
      obtain ⟨h0, _⟩ := hs
      have h0 : a.tmps.getD 0 undef = .pointer (some ⟨b, 0, .none⟩) := h0
      refine op_run rfl rfl (v := .pointer (some ⟨b, 0, .none⟩)) (w' := w1) ?_ rfl (Below.refl _ _)
      simp [execOp, Act.eval, h0, go_sem]
    · intro hne lo hi ph hran hp1 hp2 a w1 hJ hsz hs      -- 1: slot 23
      obtain ⟨rfl, rfl⟩ : 0 = lo ∧ 0 = hi := Prod.mk.inj (Option.some.inj hran)
      obtain rfl : ph = 0 := by omega
      obtain ⟨h0, _⟩ := hs
      have h0 : a.tmps.getD 7 undef = .pointer (some ⟨z, 0, .none⟩) := h0
      obtain ⟨c, c', c'', c'''⟩ := KeyAt.cells (HKr.out.held (jP_keep 0 (by decide) hJ z HKr.out.lt (.inl hzj)))
      refine op_run rfl rfl (v := .agg #[.int .i64 k.a, .int .i64 k.b, .int .i64 k.c, .int .i64 k.d]) (w' := w1) ?_ rfl (Below.refl _ _)
      simp [execOp, Act.eval, h0, c, c', c'', c''', go_sem]
    · intro hne lo hi ph hran hp1 hp2 a w1 hJ hsz hs      -- 2: slot 24
      exact absurd (by decide) hne
    · intro hne lo hi ph hran hp1 hp2 a w1 hJ hsz hs      -- 3: slot 25
      obtain ⟨rfl, rfl⟩ : 0 = lo ∧ 1 = hi := Prod.mk.inj (Option.some.inj hran)
      rcases (by omega : ph = 0 ∨ ph = 1) with rfl | rfl
      · obtain ⟨h0, _⟩ := hs
        have h0 : a.tmps.getD 1 undef = .pointer (some ⟨x, 0, .none⟩) := h0
        refine op_run rfl rfl (v := .pointer (some ⟨x, 0, .none⟩)) (w' := w1) ?_ rfl (Below.refl _ _)
        simp [execOp, Act.eval, h0, go_sem]
      · obtain ⟨h0, _⟩ := hs
        have h0 : a.tmps.getD 1 undef = .pointer (some ⟨x, 0, .none⟩) := h0
        refine op_run rfl rfl (v := .pointer (some ⟨x, 0, .none⟩)) (w' := w1) ?_ rfl (Below.refl _ _)
        simp [execOp, Act.eval, h0, go_sem]
    · intro hne lo hi ph hran hp1 hp2 a w1 hJ hsz hs      -- 4: slot 26
      obtain ⟨rfl, rfl⟩ : 0 = lo ∧ 1 = hi := Prod.mk.inj (Option.some.inj hran)
      rcases (by omega : ph = 0 ∨ ph = 1) with rfl | rfl
      · obtain ⟨h0, _⟩ := hs
        have h0 : a.tmps.getD 7 undef = .pointer (some ⟨z, 0, .none⟩) := h0
        obtain ⟨c, c', c'', c'''⟩ := KeyAt.cells (HKr.out.held (jP_keep 0 (by decide) hJ z HKr.out.lt (.inl hzj)))
        refine op_run rfl rfl (v := .agg #[.int .i64 k.a, .int .i64 k.b, .int .i64 k.c, .int .i64 k.d]) (w' := w1) ?_ rfl (Below.refl _ _)
        simp [execOp, Act.eval, h0, c, c', c'', c''', go_sem]
      · obtain ⟨h0, _⟩ := hs
        have h0 : a.tmps.getD 7 undef = .pointer (some ⟨z, 0, .none⟩) := h0
        obtain ⟨c, c', c'', c'''⟩ := KeyAt.cells (HKr.out.held (jP_keep 1 (by decide) hJ z HKr.out.lt (.inl hzj)))
        refine op_run rfl rfl (v := .agg #[.int .i64 k.a, .int .i64 k.b, .int .i64 k.c, .int .i64 k.d]) (w' := w1) ?_ rfl (Below.refl _ _)
        simp [execOp, Act.eval, h0, c, c', c'', c''', go_sem]
    · intro hne lo hi ph hran hp1 hp2 a w1 hJ hsz hs      -- 5: slot 27
      obtain ⟨rfl, rfl⟩ : 0 = lo ∧ 1 = hi := Prod.mk.inj (Option.some.inj hran)
      rcases (by omega : ph = 0 ∨ ph = 1) with rfl | rfl
      · refine op_run rfl rfl (v := rdV 1 0 ByteArray.empty (.slice none 0 0)) (w' := w1) ?_ rfl (Below.refl _ _)
        simp [execOp, Act.eval, rdV, go_sem]
        rfl
      · refine op_run rfl rfl (v := rdV 1 0 ByteArray.empty (.slice none 0 0)) (w' := w1) ?_ rfl (Below.refl _ _)
        simp [execOp, Act.eval, rdV, go_sem]
        rfl
    · intro hne lo hi ph hran hp1 hp2 a w1 hJ hsz hs      -- 6: slot 28
      exact absurd (by decide) hne
    · intro hne lo hi ph hran hp1 hp2 a w1 hJ hsz hs      -- 7: slot 29
      obtain ⟨rfl, rfl⟩ : 2 = lo ∧ 2 = hi := Prod.mk.inj (Option.some.inj hran)
      obtain rfl : ph = 2 := by omega
      obtain ⟨h0, h1, _⟩ := hs
      obtain ⟨v0, e0, q0, m0⟩ : ∃ v, a.tmps.getD 24 undef = v ∧ iV.p w1 v := ⟨_, rfl, h0⟩
      obtain ⟨v1, e1, q1, m1⟩ : ∃ v, a.tmps.getD 28 undef = v ∧ iV.p w1 v := ⟨_, rfl, h1⟩
      subst m0 m1
      have e0 : a.tmps[24]?.getD undef = .int .i64 q0 := by rw [← e0]; exact (Array.getD_eq_getD_getElem?).symm
      have e1 : a.tmps[28]?.getD undef = .int .i64 q1 := by rw [← e1]; exact (Array.getD_eq_getD_getElem?).symm
      refine op_run rfl rfl (v := .bool (q0 == q1)) (w' := w1) ?_ ⟨_, rfl⟩ (Below.refl _ _)
      simp [execOp, Act.eval, e0, e1, go_sem]
    · intro hne lo hi ph hran hp1 hp2 a w1 hJ hsz hs      -- 8: slot 6
      obtain ⟨rfl, rfl⟩ : 2 = lo ∧ 2 = hi := Prod.mk.inj (Option.some.inj hran)
      obtain rfl : ph = 2 := by omega
      obtain ⟨h0, _⟩ := hs
      obtain ⟨v0, e0, q0, m0⟩ : ∃ v, a.tmps.getD 29 undef = v ∧ bV1.p w1 v := ⟨_, rfl, h0⟩
      subst m0
      have e0 : a.tmps[29]?.getD undef = .bool q0 := by rw [← e0]; exact (Array.getD_eq_getD_getElem?).symm
      refine op_run rfl rfl (v := .bool q0) (w' := w1) ?_ ⟨_, rfl⟩ (Below.refl _ _)
      simp [execOp, Act.eval, e0, go_sem]
  · show ∀ ph, ph < 2 → _
    iterate 2 (refine fls ?_ ?_)
    · exact fl0
    · intro i hi a w1 hJ hsz hs      -- heavy 0: op 2 slot 24
      obtain rfl : 2 = i := Option.some.inj hi
      obtain ⟨h0, h1, _⟩ := hs
      have h0 : a.tmps.getD 22 undef = .pointer (some ⟨b, 0, .none⟩) := h0
      have h1 : a.tmps.getD 23 undef = .agg #[.int .i64 k.a, .int .i64 k.b, .int .i64 k.c, .int .i64 k.d] := h1
      have hcalm : ∀ (wq1 wq2 : World) (kk : Nat) (v0 : Value), kk ≠ 2 → VL [cV (.pointer (some ⟨b, 0, .none⟩)), cV (.agg #[.int .i64 k.a, .int .i64 k.b, .int .i64 k.c, .int .i64 k.d]), nV, cV (.pointer (some ⟨x, 0, .none⟩)), cV (.agg #[.int .i64 k.a, .int .i64 k.b, .int .i64 k.c, .int .i64 k.d]), cV (rdV 1 0 ByteArray.empty (.slice none 0 0)), nV, nV, nV] kk wq1 v0 → VL [cV (.pointer (some ⟨b, 0, .none⟩)), cV (.agg #[.int .i64 k.a, .int .i64 k.b, .int .i64 k.c, .int .i64 k.d]), iV, cV (.pointer (some ⟨x, 0, .none⟩)), cV (.agg #[.int .i64 k.a, .int .i64 k.b, .int .i64 k.c, .int .i64 k.d]), cV (rdV 1 0 ByteArray.empty (.slice none 0 0)), nV, nV, nV] kk wq2 v0 := Calm3.all (n := 0) ⟨.inr fun _ _ _ h => h, .inr fun _ _ _ h => h, .inl rfl, .inr fun _ _ _ h => h, .inr fun _ _ _ h => h, .inr fun _ _ _ h => h, .inr fun _ _ _ h => h.elim, .inr fun _ _ _ h => h.elim, .inr fun _ _ _ h => h.elim, trivial⟩
      refine hv_call rfl rfl (f := 10) (args := #[.pointer (some ⟨b, 0, .none⟩), .agg #[.int .i64 k.a, .int .i64 k.b, .int .i64 k.c, .int .i64 k.d]]) (by simp [execOp, Act.eval, resolve, h0, h1, go_sem]) ?_
      have hJ0 : Below wr.heap.size wr w1 := hJ
      have hop := make_ri (Hr.out.later hJ0) hl hn hq
      rw [hk] at hop
      unfold kv at hop
      refine hop.mono ?_
      rintro e w' ⟨⟨c, rfl⟩, hac⟩
      exact ⟨_, rfl, ⟨c, rfl⟩, jP_one hJ0 hac, hcalm _ _⟩
    · intro i hi a w1 hJ hsz hs      -- heavy 1: op 6 slot 28
      obtain rfl : 6 = i := Option.some.inj hi
      obtain ⟨h0, h1, h2, _⟩ := hs
      have h0 : a.tmps.getD 25 undef = .pointer (some ⟨x, 0, .none⟩) := h0
      have h1 : a.tmps.getD 26 undef = .agg #[.int .i64 k.a, .int .i64 k.b, .int .i64 k.c, .int .i64 k.d] := h1
      have h2 : a.tmps.getD 27 undef = rdV 1 0 ByteArray.empty (.slice none 0 0) := h2
      have hcalm : ∀ (wq1 wq2 : World) (kk : Nat) (v0 : Value), kk ≠ 6 → VL [cV (.pointer (some ⟨b, 0, .none⟩)), cV (.agg #[.int .i64 k.a, .int .i64 k.b, .int .i64 k.c, .int .i64 k.d]), iV, cV (.pointer (some ⟨x, 0, .none⟩)), cV (.agg #[.int .i64 k.a, .int .i64 k.b, .int .i64 k.c, .int .i64 k.d]), cV (rdV 1 0 ByteArray.empty (.slice none 0 0)), nV, nV, nV] kk wq1 v0 → VL [cV (.pointer (some ⟨b, 0, .none⟩)), cV (.agg #[.int .i64 k.a, .int .i64 k.b, .int .i64 k.c, .int .i64 k.d]), iV, cV (.pointer (some ⟨x, 0, .none⟩)), cV (.agg #[.int .i64 k.a, .int .i64 k.b, .int .i64 k.c, .int .i64 k.d]), cV (rdV 1 0 ByteArray.empty (.slice none 0 0)), iV, bV1, bV1] kk wq2 v0 := Calm3.all (n := 0) ⟨.inr fun _ _ _ h => h, .inr fun _ _ _ h => h, .inr fun _ _ _ h => h, .inr fun _ _ _ h => h, .inr fun _ _ _ h => h, .inr fun _ _ _ h => h, .inl rfl, .inr fun _ _ _ h => h.elim, .inr fun _ _ _ h => h.elim, trivial⟩
      refine hv_call rfl rfl (f := 48) (args := #[.pointer (some ⟨x, 0, .none⟩), .agg #[.int .i64 k.a, .int .i64 k.b, .int .i64 k.c, .int .i64 k.d], rdV 1 0 ByteArray.empty (.slice none 0 0)]) (by simp [execOp, Act.eval, resolve, h0, h1, h2, go_sem]) ?_
      have hRF := HXr.out.held (jP_keep 1 (by decide) hJ x HXr.out.lt (.inr hxo))
      have hop := rdo_make w1 x 0 hRF k (by rw [← hk]; exact keyW_right hq)
      unfold kv at hop
      refine hop.mono ?_
      rintro e w' ⟨c, rfl, hbb⟩
      exact ⟨_, rfl, ⟨_, rfl⟩, jP_two hJ hxo HXr.out.lt hbb, hcalm _ _⟩
  intro f w1 hJ hv
  try simp only [Exit.then]
  simp only [putAll, List.foldl_cons, List.foldl_nil, Option.getD_some, Act.put, List.setIfInBounds_toArray, List.set_cons_succ, List.set_cons_zero]
  obtain ⟨qv, e6⟩ : ∃ c, f 6 = .bool c := hv 8 _ 6 rfl rfl
  clear hv
  have HST : Hid (∃ g' S', NSto w0 w1 b g' S' ∧ RI S' room (n + 1)) := Lib.hid hJ
  clear hJ
  rw [e6]
  go_wp2_with fail
  go_ret
  exact ⟨⟨_, rfl⟩, HST.out⟩
-- END J4

set_option maxRecDepth 20000 in
theorem deed_1 (w0 w : World) (b x : Nat) (g : Gh) (S : St) (room : Int) (n : Nat) (h : NSto w0 w b g S) (hl : RI S room n) (hn : n ≤ 900) (hx : RefAt w x 0) (hxo : g.r x = .own) (A : ActP) (hraw : A.raw = false) (hwh : A.what = 1) (l : List UInt8) (hr : Row w0 A.pa A.pc l) (hlen : l.length = A.pl) (hm6 : A.pl ≤ 60) (hnm : A.nm.size ≤ 30) (hof : -9223372036854775808 ≤ A.off ∧ A.off ≤ 9223372036854775807) :
    Calls Try.prog 20 #[.pointer (some ⟨b, 0, .none⟩), .pointer (some ⟨x, 0, .none⟩), .agg A.cs] w fun e w' => Deeded w0 b room n e w' := by
  obtain ⟨wh, wi, off, nq, raw, ⟨ka, kb, kc, kd⟩, pa, pl, pc, nm, qa, ql, qc⟩ := A
  simp only at hraw hwh hr hlen hm6 hnm hof
  subst hraw hwh
  obtain ⟨cs, hcs⟩ : ∃ cs, (⟨1, wi, off, nq, false, ⟨ka, kb, kc, kd⟩, pa, pl, pc, nm, qa, ql, qc⟩ : ActP).cs = cs := ⟨_, rfl⟩
  have HA := Lib.hid (fun W => key_any ⟨1, wi, off, nq, false, ⟨ka, kb, kc, kd⟩, pa, pl, pc, nm, qa, ql, qc⟩ rfl W)
  obtain ⟨w1, hwe⟩ : ∃ w1, w.alloc (.cells cs 44) = w1 := ⟨_, rfl⟩
  have hb1 : Below w.heap.size w w1 := by rw [← hwe]; exact (Below.refl _ _).alloc (Nat.le_refl _) _
  have hR1 : RecAt w1 w.heap.size cs 44 := by rw [← hwe]; exact RecAt.new _ _ _
  have hj1 : g.r w.heap.size = .junk := h.sto.dom _ (Nat.le_refl _)
  rw [hcs] at HA
  subst hcs
  unfold ActP.cs at HA hR1 hwe ⊢
  simp only at HA hR1 hwe ⊢
  have r0 := hR1.cell (i := 0) rfl
  have r1 := hR1.cell (i := 1) rfl
  have r2 := hR1.cell (i := 2) rfl
  have r3 := hR1.cell (i := 3) rfl
  have r4 := hR1.cell (i := 4) rfl
  have r5 := hR1.cell (i := 5) rfl
  have r6 := hR1.cell (i := 6) rfl
  have r7 := hR1.cell (i := 7) rfl
  have r8 := hR1.cell (i := 8) rfl
  have r9 := hR1.cell (i := 9) rfl
  have r10 := hR1.cell (i := 10) rfl
  have r11 := hR1.cell (i := 11) rfl
  have HR1 := Lib.hid hR1
  have H1 := Lib.hid (h.later hb1)
  have HX1 := Lib.hid (hx.later hb1)
  have HB1 := Lib.hid hb1
  clear h hx hb1 hR1
  go_enter Try.func20, Try.ntmps20
  go_upto_region 1 with fail
  clear hwe
  go_wp2_with fail
  refine (HA.out w1).mono ?_
  rintro e w2 ⟨q, hq, rfl, hb2⟩
  have HR2 := Lib.hid (HR1.out.later hb2)
  have H2 := Lib.hid (H1.out.later hb2)
  have HX2 := Lib.hid (HX1.out.later hb2)
  clear r0 r1 r2 r3 r4 r5 r6 r7 r8 r9 r10 r11 HA HR1 H1 HX1
  obtain ⟨k, hk⟩ : ∃ k, keyW q = k := ⟨_, rfl⟩
  obtain ⟨z, hz⟩ : ∃ z, w2.heap.size = z := ⟨_, rfl⟩
  rw [hk]
  obtain ⟨wr, hwe⟩ : ∃ wr, w2.alloc (.cells #[.int .i64 k.a, .int .i64 k.b, .int .i64 k.c, .int .i64 k.d] 27) = wr := ⟨_, rfl⟩
  have hb3 : Below w2.heap.size w2 wr := by rw [← hwe]; exact (Below.refl _ _).alloc (Nat.le_refl _) _
  have hKr : KeyAt wr w2.heap.size k := by rw [← hwe]; exact KeyAt.new w2 k
  rw [hz] at hKr
  have hzj : g.r z = .junk := by rw [← hz]; exact H2.out.sto.dom _ (Nat.le_refl _)
  have hRr := HR2.out.later hb3
  have d0 : wr.cell? ⟨w.heap.size, 0, .none⟩ = some (.int .i64 1) := hRr.cell (i := 0) rfl
  have HRr := Lib.hid hRr
  have HKr := Lib.hid hKr
  have Hr := Lib.hid (H2.out.later hb3)
  have HXr := Lib.hid (HX2.out.later hb3)
  have HROW := Lib.hid (fun w' (g' : Gh) (S' : St) (h' : NSto w0 w' b g' S') => hr.later h'.below)
  clear hb2 hb3 hKr hRr HR2 H2 HX2 hr
  unfold kv
  go_upto_region 2 with fail
  clear hwe hz
  go_upto_region 6 with fail
-- REG J6
  refine wp_region_ptab (L := fun ph => match ph with | 0 => [cV (.pointer (some ⟨b, 0, .none⟩)), cV (.agg #[.int .i64 k.a, .int .i64 k.b, .int .i64 k.c, .int .i64 k.d]), cV (.pointer (some ⟨w.heap.size, 2, .none⟩)), cV (.int .i64 off), cV (.pointer (some ⟨w.heap.size, 9, .none⟩)), cV (.slice pa pl pc), nV, cV (.pointer (some ⟨x, 0, .none⟩)), cV (.agg #[.int .i64 k.a, .int .i64 k.b, .int .i64 k.c, .int .i64 k.d]), cV (.pointer (some ⟨w.heap.size, 2, .none⟩)), cV (.int .i64 off), cV (.pointer (some ⟨w.heap.size, 9, .none⟩)), cV (.slice pa pl pc), cV (rdV 2 off ByteArray.empty (.slice pa pl pc)), nV, nV, nV] | 1 => [cV (.pointer (some ⟨b, 0, .none⟩)), cV (.agg #[.int .i64 k.a, .int .i64 k.b, .int .i64 k.c, .int .i64 k.d]), cV (.pointer (some ⟨w.heap.size, 2, .none⟩)), cV (.int .i64 off), cV (.pointer (some ⟨w.heap.size, 9, .none⟩)), cV (.slice pa pl pc), iV, cV (.pointer (some ⟨x, 0, .none⟩)), cV (.agg #[.int .i64 k.a, .int .i64 k.b, .int .i64 k.c, .int .i64 k.d]), cV (.pointer (some ⟨w.heap.size, 2, .none⟩)), cV (.int .i64 off), cV (.pointer (some ⟨w.heap.size, 9, .none⟩)), cV (.slice pa pl pc), cV (rdV 2 off ByteArray.empty (.slice pa pl pc)), nV, nV, nV] | _ => [cV (.pointer (some ⟨b, 0, .none⟩)), cV (.agg #[.int .i64 k.a, .int .i64 k.b, .int .i64 k.c, .int .i64 k.d]), cV (.pointer (some ⟨w.heap.size, 2, .none⟩)), cV (.int .i64 off), cV (.pointer (some ⟨w.heap.size, 9, .none⟩)), cV (.slice pa pl pc), iV, cV (.pointer (some ⟨x, 0, .none⟩)), cV (.agg #[.int .i64 k.a, .int .i64 k.b, .int .i64 k.c, .int .i64 k.d]), cV (.pointer (some ⟨w.heap.size, 2, .none⟩)), cV (.int .i64 off), cV (.pointer (some ⟨w.heap.size, 9, .none⟩)), cV (.slice pa pl pc), cV (rdV 2 off ByteArray.empty (.slice pa pl pc)), iV, bV1, bV1]) (jP w0 wr b room n g) [6, 14] [(0, 0), (0, 0), (0, 0), (0, 0), (0, 0), (0, 0), (0, 2), (0, 1), (0, 1), (0, 1), (0, 1), (0, 1), (0, 1), (0, 1), (0, 2), (2, 2), (2, 2)] [[(0, none)], [(7, none)], [(5, none)], [(34, some 2)], [(5, none)], [(36, some 4)], [(32, some 0), (33, some 1), (35, some 3), (37, some 5)], [(1, none)], [(7, none)], [(5, none)], [(41, some 9)], [(5, none)], [(43, some 11)], [(42, some 10), (44, some 12)], [(39, some 7), (40, some 8), (45, some 13)], [(38, some 6), (46, some 14)], [(47, some 15)]] 17 2 211 (by kernel_rfl) rfl rfl rfl (by kernel_rfl) (by kernel_rfl) (by decide) (by kernel_rfl) ?_ ?_ ?_ ?_ ?_
  · exact fun ph w1 w2 h hb => jP_st ph h hb
  · exact Below.refl _ _
  · show ∀ i, i < 17 → _
    iterate 17 (refine fls ?_ ?_)
    · exact fl0
    · intro hne lo hi ph hran hp1 hp2 a w1 hJ hsz hs      -- 0: slot 32
      obtain ⟨rfl, rfl⟩ : 0 = lo ∧ 0 = hi := Prod.mk.inj (Option.some.inj hran)
      obtain rfl : ph = 0 := by omega
      obtain ⟨h0, _⟩ := hs
      have h0 : a.tmps.getD 0 undef = .pointer (some ⟨b, 0, .none⟩) := h0
      refine op_run rfl rfl (v := .pointer (some ⟨b, 0, .none⟩)) (w' := w1) ?_ rfl (Below.refl _ _)
      simp [execOp, Act.eval, h0, go_sem]
    · intro hne lo hi ph hran hp1 hp2 a w1 hJ hsz hs      -- 1: slot 33
      obtain ⟨rfl, rfl⟩ : 0 = lo ∧ 0 = hi := Prod.mk.inj (Option.some.inj hran)
      obtain rfl : ph = 0 := by omega
      obtain ⟨h0, _⟩ := hs
      have h0 : a.tmps.getD 7 undef = .pointer (some ⟨z, 0, .none⟩) := h0
      obtain ⟨c, c', c'', c'''⟩ := KeyAt.cells (HKr.out.held (jP_keep 0 (by decide) hJ z HKr.out.lt (.inl hzj)))
      refine op_run rfl rfl (v := .agg #[.int .i64 k.a, .int .i64 k.b, .int .i64 k.c, .int .i64 k.d]) (w' := w1) ?_ rfl (Below.refl _ _)
      simp [execOp, Act.eval, h0, c, c', c'', c''', go_sem]
    · intro hne lo hi ph hran hp1 hp2 a w1 hJ hsz hs      -- 2: slot 34
      obtain ⟨rfl, rfl⟩ : 0 = lo ∧ 0 = hi := Prod.mk.inj (Option.some.inj hran)
      obtain rfl : ph = 0 := by omega
      obtain ⟨h0, _⟩ := hs
      have h0 : a.tmps.getD 5 undef = .pointer (some ⟨w.heap.size, 0, .none⟩) := h0
      refine op_run rfl rfl (v := .pointer (some ⟨w.heap.size, 2, .none⟩)) (w' := w1) ?_ rfl (Below.refl _ _)
      simp [execOp, Act.eval, h0, go_sem]
    · intro hne lo hi ph hran hp1 hp2 a w1 hJ hsz hs      -- 3: slot 35
      obtain ⟨rfl, rfl⟩ : 0 = lo ∧ 0 = hi := Prod.mk.inj (Option.some.inj hran)
      obtain rfl : ph = 0 := by omega
      obtain ⟨h0, _⟩ := hs
      have h0 : a.tmps.getD 34 undef = .pointer (some ⟨w.heap.size, 2, .none⟩) := h0
      have c : w1.cell? ⟨w.heap.size, 2, .none⟩ = some (.int .i64 off) := (HRr.out.held (jP_keep 0 (by decide) hJ w.heap.size HRr.out.lt (.inl hj1))).cell (i := 2) rfl
      refine op_run rfl rfl (v := .int .i64 off) (w' := w1) ?_ rfl (Below.refl _ _)
      simp [execOp, Act.eval, h0, c, go_sem]
    · intro hne lo hi ph hran hp1 hp2 a w1 hJ hsz hs      -- 4: slot 36
      obtain ⟨rfl, rfl⟩ : 0 = lo ∧ 0 = hi := Prod.mk.inj (Option.some.inj hran)
      obtain rfl : ph = 0 := by omega
      obtain ⟨h0, _⟩ := hs
      have h0 : a.tmps.getD 5 undef = .pointer (some ⟨w.heap.size, 0, .none⟩) := h0
      refine op_run rfl rfl (v := .pointer (some ⟨w.heap.size, 9, .none⟩)) (w' := w1) ?_ rfl (Below.refl _ _)
      simp [execOp, Act.eval, h0, go_sem]
    · intro hne lo hi ph hran hp1 hp2 a w1 hJ hsz hs      -- 5: slot 37
      obtain ⟨rfl, rfl⟩ : 0 = lo ∧ 0 = hi := Prod.mk.inj (Option.some.inj hran)
      obtain rfl : ph = 0 := by omega
      obtain ⟨h0, _⟩ := hs
      have h0 : a.tmps.getD 36 undef = .pointer (some ⟨w.heap.size, 9, .none⟩) := h0
      have c : w1.cell? ⟨w.heap.size, 9, .none⟩ = some (.slice pa pl pc) := (HRr.out.held (jP_keep 0 (by decide) hJ w.heap.size HRr.out.lt (.inl hj1))).cell (i := 9) rfl
      refine op_run rfl rfl (v := .slice pa pl pc) (w' := w1) ?_ rfl (Below.refl _ _)
      simp [execOp, Act.eval, h0, c, go_sem]
    · intro hne lo hi ph hran hp1 hp2 a w1 hJ hsz hs      -- 6: slot 38
      exact absurd (by decide) hne
    · intro hne lo hi ph hran hp1 hp2 a w1 hJ hsz hs      -- 7: slot 39
      obtain ⟨rfl, rfl⟩ : 0 = lo ∧ 1 = hi := Prod.mk.inj (Option.some.inj hran)
      rcases (by omega : ph = 0 ∨ ph = 1) with rfl | rfl
      · obtain ⟨h0, _⟩ := hs
        have h0 : a.tmps.getD 1 undef = .pointer (some ⟨x, 0, .none⟩) := h0
        refine op_run rfl rfl (v := .pointer (some ⟨x, 0, .none⟩)) (w' := w1) ?_ rfl (Below.refl _ _)
        simp [execOp, Act.eval, h0, go_sem]
      · obtain ⟨h0, _⟩ := hs
        have h0 : a.tmps.getD 1 undef = .pointer (some ⟨x, 0, .none⟩) := h0
        refine op_run rfl rfl (v := .pointer (some ⟨x, 0, .none⟩)) (w' := w1) ?_ rfl (Below.refl _ _)
        simp [execOp, Act.eval, h0, go_sem]
    · intro hne lo hi ph hran hp1 hp2 a w1 hJ hsz hs      -- 8: slot 40
      obtain ⟨rfl, rfl⟩ : 0 = lo ∧ 1 = hi := Prod.mk.inj (Option.some.inj hran)
      rcases (by omega : ph = 0 ∨ ph = 1) with rfl | rfl
      · obtain ⟨h0, _⟩ := hs
        have h0 : a.tmps.getD 7 undef = .pointer (some ⟨z, 0, .none⟩) := h0
        obtain ⟨c, c', c'', c'''⟩ := KeyAt.cells (HKr.out.held (jP_keep 0 (by decide) hJ z HKr.out.lt (.inl hzj)))
        refine op_run rfl rfl (v := .agg #[.int .i64 k.a, .int .i64 k.b, .int .i64 k.c, .int .i64 k.d]) (w' := w1) ?_ rfl (Below.refl _ _)
        simp [execOp, Act.eval, h0, c, c', c'', c''', go_sem]
      · obtain ⟨h0, _⟩ := hs
        have h0 : a.tmps.getD 7 undef = .pointer (some ⟨z, 0, .none⟩) := h0
        obtain ⟨c, c', c'', c'''⟩ := KeyAt.cells (HKr.out.held (jP_keep 1 (by decide) hJ z HKr.out.lt (.inl hzj)))
        refine op_run rfl rfl (v := .agg #[.int .i64 k.a, .int .i64 k.b, .int .i64 k.c, .int .i64 k.d]) (w' := w1) ?_ rfl (Below.refl _ _)
        simp [execOp, Act.eval, h0, c, c', c'', c''', go_sem]
    · intro hne lo hi ph hran hp1 hp2 a w1 hJ hsz hs      -- 9: slot 41
      obtain ⟨rfl, rfl⟩ : 0 = lo ∧ 1 = hi := Prod.mk.inj (Option.some.inj hran)
      rcases (by omega : ph = 0 ∨ ph = 1) with rfl | rfl
      · obtain ⟨h0, _⟩ := hs
        have h0 : a.tmps.getD 5 undef = .pointer (some ⟨w.heap.size, 0, .none⟩) := h0
        refine op_run rfl rfl (v := .pointer (some ⟨w.heap.size, 2, .none⟩)) (w' := w1) ?_ rfl (Below.refl _ _)
        simp [execOp, Act.eval, h0, go_sem]
      · obtain ⟨h0, _⟩ := hs
        have h0 : a.tmps.getD 5 undef = .pointer (some ⟨w.heap.size, 0, .none⟩) := h0
        refine op_run rfl rfl (v := .pointer (some ⟨w.heap.size, 2, .none⟩)) (w' := w1) ?_ rfl (Below.refl _ _)
        simp [execOp, Act.eval, h0, go_sem]
    · intro hne lo hi ph hran hp1 hp2 a w1 hJ hsz hs      -- 10: slot 42
      obtain ⟨rfl, rfl⟩ : 0 = lo ∧ 1 = hi := Prod.mk.inj (Option.some.inj hran)
      rcases (by omega : ph = 0 ∨ ph = 1) with rfl | rfl
      · obtain ⟨h0, _⟩ := hs
        have h0 : a.tmps.getD 41 undef = .pointer (some ⟨w.heap.size, 2, .none⟩) := h0
        have c : w1.cell? ⟨w.heap.size, 2, .none⟩ = some (.int .i64 off) := (HRr.out.held (jP_keep 0 (by decide) hJ w.heap.size HRr.out.lt (.inl hj1))).cell (i := 2) rfl
        refine op_run rfl rfl (v := .int .i64 off) (w' := w1) ?_ rfl (Below.refl _ _)
        simp [execOp, Act.eval, h0, c, go_sem]
      · obtain ⟨h0, _⟩ := hs
        have h0 : a.tmps.getD 41 undef = .pointer (some ⟨w.heap.size, 2, .none⟩) := h0
        have c : w1.cell? ⟨w.heap.size, 2, .none⟩ = some (.int .i64 off) := (HRr.out.held (jP_keep 1 (by decide) hJ w.heap.size HRr.out.lt (.inl hj1))).cell (i := 2) rfl
        refine op_run rfl rfl (v := .int .i64 off) (w' := w1) ?_ rfl (Below.refl _ _)
        simp [execOp, Act.eval, h0, c, go_sem]
    · intro hne lo hi ph hran hp1 hp2 a w1 hJ hsz hs      -- 11: slot 43
      obtain ⟨rfl, rfl⟩ : 0 = lo ∧ 1 = hi := Prod.mk.inj (Option.some.inj hran)
      rcases (by omega : ph = 0 ∨ ph = 1) with rfl | rfl
      · obtain ⟨h0, _⟩ := hs
        have h0 : a.tmps.getD 5 undef = .pointer (some ⟨w.heap.size, 0, .none⟩) := h0
        refine op_run rfl rfl (v := .pointer (some ⟨w.heap.size, 9, .none⟩)) (w' := w1) ?_ rfl (Below.refl _ _)
        simp [execOp, Act.eval, h0, go_sem]
      · obtain ⟨h0, _⟩ := hs
        have h0 : a.tmps.getD 5 undef = .pointer (some ⟨w.heap.size, 0, .none⟩) := h0
        refine op_run rfl rfl (v := .pointer (some ⟨w.heap.size, 9, .none⟩)) (w' := w1) ?_ rfl (Below.refl _ _)
        simp [execOp, Act.eval, h0, go_sem]
    · intro hne lo hi ph hran hp1 hp2 a w1 hJ hsz hs      -- 12: slot 44
      obtain ⟨rfl, rfl⟩ : 0 = lo ∧ 1 = hi := Prod.mk.inj (Option.some.inj hran)
      rcases (by omega : ph = 0 ∨ ph = 1) with rfl | rfl
      · obtain ⟨h0, _⟩ := hs
        have h0 : a.tmps.getD 43 undef = .pointer (some ⟨w.heap.size, 9, .none⟩) := h0
        have c : w1.cell? ⟨w.heap.size, 9, .none⟩ = some (.slice pa pl pc) := (HRr.out.held (jP_keep 0 (by decide) hJ w.heap.size HRr.out.lt (.inl hj1))).cell (i := 9) rfl
        refine op_run rfl rfl (v := .slice pa pl pc) (w' := w1) ?_ rfl (Below.refl _ _)
        simp [execOp, Act.eval, h0, c, go_sem]
      · obtain ⟨h0, _⟩ := hs
        have h0 : a.tmps.getD 43 undef = .pointer (some ⟨w.heap.size, 9, .none⟩) := h0
        have c : w1.cell? ⟨w.heap.size, 9, .none⟩ = some (.slice pa pl pc) := (HRr.out.held (jP_keep 1 (by decide) hJ w.heap.size HRr.out.lt (.inl hj1))).cell (i := 9) rfl
        refine op_run rfl rfl (v := .slice pa pl pc) (w' := w1) ?_ rfl (Below.refl _ _)
        simp [execOp, Act.eval, h0, c, go_sem]
    · intro hne lo hi ph hran hp1 hp2 a w1 hJ hsz hs      -- 13: slot 45
      obtain ⟨rfl, rfl⟩ : 0 = lo ∧ 1 = hi := Prod.mk.inj (Option.some.inj hran)
      rcases (by omega : ph = 0 ∨ ph = 1) with rfl | rfl
      · obtain ⟨h0, h1, _⟩ := hs
        have h0 : a.tmps.getD 42 undef = .int .i64 off := h0
        have g0 : a.tmps[42]?.getD undef = .int .i64 off := (Array.getD_eq_getD_getElem? ..).symm.trans h0
        have h1 : a.tmps.getD 44 undef = .slice pa pl pc := h1
        have g1 : a.tmps[44]?.getD undef = .slice pa pl pc := (Array.getD_eq_getD_getElem? ..).symm.trans h1
        have e0 : a.tmps[42]?.getD undef = .int .i64 off := by rw [← h0]; exact (Array.getD_eq_getD_getElem?).symm
        have e1 : a.tmps[44]?.getD undef = .slice pa pl pc := by rw [← h1]; exact (Array.getD_eq_getD_getElem?).symm
        refine op_run rfl rfl (v := rdV 2 off ByteArray.empty (.slice pa pl pc)) (w' := w1) ?_ rfl (Below.refl _ _)
        simp [execOp, Act.eval, rdV, e0, e1, go_sem]
        rfl
      · obtain ⟨h0, h1, _⟩ := hs
        have h0 : a.tmps.getD 42 undef = .int .i64 off := h0
        have g0 : a.tmps[42]?.getD undef = .int .i64 off := (Array.getD_eq_getD_getElem? ..).symm.trans h0
        have h1 : a.tmps.getD 44 undef = .slice pa pl pc := h1
        have g1 : a.tmps[44]?.getD undef = .slice pa pl pc := (Array.getD_eq_getD_getElem? ..).symm.trans h1
        have e0 : a.tmps[42]?.getD undef = .int .i64 off := by rw [← h0]; exact (Array.getD_eq_getD_getElem?).symm
        have e1 : a.tmps[44]?.getD undef = .slice pa pl pc := by rw [← h1]; exact (Array.getD_eq_getD_getElem?).symm
        refine op_run rfl rfl (v := rdV 2 off ByteArray.empty (.slice pa pl pc)) (w' := w1) ?_ rfl (Below.refl _ _)
        simp [execOp, Act.eval, rdV, e0, e1, go_sem]
        rfl
    · intro hne lo hi ph hran hp1 hp2 a w1 hJ hsz hs      -- 14: slot 46
      exact absurd (by decide) hne
    · intro hne lo hi ph hran hp1 hp2 a w1 hJ hsz hs      -- 15: slot 47
      obtain ⟨rfl, rfl⟩ : 2 = lo ∧ 2 = hi := Prod.mk.inj (Option.some.inj hran)
      obtain rfl : ph = 2 := by omega
      obtain ⟨h0, h1, _⟩ := hs
      obtain ⟨v0, e0, q0, m0⟩ : ∃ v, a.tmps.getD 38 undef = v ∧ iV.p w1 v := ⟨_, rfl, h0⟩
      obtain ⟨v1, e1, q1, m1⟩ : ∃ v, a.tmps.getD 46 undef = v ∧ iV.p w1 v := ⟨_, rfl, h1⟩
      subst m0 m1
      have e0 : a.tmps[38]?.getD undef = .int .i64 q0 := by rw [← e0]; exact (Array.getD_eq_getD_getElem?).symm
      have e1 : a.tmps[46]?.getD undef = .int .i64 q1 := by rw [← e1]; exact (Array.getD_eq_getD_getElem?).symm
      refine op_run rfl rfl (v := .bool (q0 == q1)) (w' := w1) ?_ ⟨_, rfl⟩ (Below.refl _ _)
      simp [execOp, Act.eval, e0, e1, go_sem]
    · intro hne lo hi ph hran hp1 hp2 a w1 hJ hsz hs      -- 16: slot 6
      obtain ⟨rfl, rfl⟩ : 2 = lo ∧ 2 = hi := Prod.mk.inj (Option.some.inj hran)
      obtain rfl : ph = 2 := by omega
      obtain ⟨h0, _⟩ := hs
      obtain ⟨v0, e0, q0, m0⟩ : ∃ v, a.tmps.getD 47 undef = v ∧ bV1.p w1 v := ⟨_, rfl, h0⟩
      subst m0
      have e0 : a.tmps[47]?.getD undef = .bool q0 := by rw [← e0]; exact (Array.getD_eq_getD_getElem?).symm
      refine op_run rfl rfl (v := .bool q0) (w' := w1) ?_ ⟨_, rfl⟩ (Below.refl _ _)
      simp [execOp, Act.eval, e0, go_sem]
  · show ∀ ph, ph < 2 → _
    iterate 2 (refine fls ?_ ?_)
    · exact fl0
    · intro i hi a w1 hJ hsz hs      -- heavy 0: op 6 slot 38
      obtain rfl : 6 = i := Option.some.inj hi
      obtain ⟨h0, h1, h2, h3, _⟩ := hs
      have h0 : a.tmps.getD 32 undef = .pointer (some ⟨b, 0, .none⟩) := h0
      have h1 : a.tmps.getD 33 undef = .agg #[.int .i64 k.a, .int .i64 k.b, .int .i64 k.c, .int .i64 k.d] := h1
      have h2 : a.tmps.getD 35 undef = .int .i64 off := h2
      have h3 : a.tmps.getD 37 undef = .slice pa pl pc := h3
      have hcalm : ∀ (wq1 wq2 : World) (kk : Nat) (v0 : Value), kk ≠ 6 → VL [cV (.pointer (some ⟨b, 0, .none⟩)), cV (.agg #[.int .i64 k.a, .int .i64 k.b, .int .i64 k.c, .int .i64 k.d]), cV (.pointer (some ⟨w.heap.size, 2, .none⟩)), cV (.int .i64 off), cV (.pointer (some ⟨w.heap.size, 9, .none⟩)), cV (.slice pa pl pc), nV, cV (.pointer (some ⟨x, 0, .none⟩)), cV (.agg #[.int .i64 k.a, .int .i64 k.b, .int .i64 k.c, .int .i64 k.d]), cV (.pointer (some ⟨w.heap.size, 2, .none⟩)), cV (.int .i64 off), cV (.pointer (some ⟨w.heap.size, 9, .none⟩)), cV (.slice pa pl pc), cV (rdV 2 off ByteArray.empty (.slice pa pl pc)), nV, nV, nV] kk wq1 v0 → VL [cV (.pointer (some ⟨b, 0, .none⟩)), cV (.agg #[.int .i64 k.a, .int .i64 k.b, .int .i64 k.c, .int .i64 k.d]), cV (.pointer (some ⟨w.heap.size, 2, .none⟩)), cV (.int .i64 off), cV (.pointer (some ⟨w.heap.size, 9, .none⟩)), cV (.slice pa pl pc), iV, cV (.pointer (some ⟨x, 0, .none⟩)), cV (.agg #[.int .i64 k.a, .int .i64 k.b, .int .i64 k.c, .int .i64 k.d]), cV (.pointer (some ⟨w.heap.size, 2, .none⟩)), cV (.int .i64 off), cV (.pointer (some ⟨w.heap.size, 9, .none⟩)), cV (.slice pa pl pc), cV (rdV 2 off ByteArray.empty (.slice pa pl pc)), nV, nV, nV] kk wq2 v0 := Calm3.all (n := 0) ⟨.inr fun _ _ _ h => h, .inr fun _ _ _ h => h, .inr fun _ _ _ h => h, .inr fun _ _ _ h => h, .inr fun _ _ _ h => h, .inr fun _ _ _ h => h, .inl rfl, .inr fun _ _ _ h => h, .inr fun _ _ _ h => h, .inr fun _ _ _ h => h, .inr fun _ _ _ h => h, .inr fun _ _ _ h => h, .inr fun _ _ _ h => h, .inr fun _ _ _ h => h, .inr fun _ _ _ h => h.elim, .inr fun _ _ _ h => h.elim, .inr fun _ _ _ h => h.elim, trivial⟩
      refine hv_call rfl rfl (f := 31) (args := #[.pointer (some ⟨b, 0, .none⟩), .agg #[.int .i64 k.a, .int .i64 k.b, .int .i64 k.c, .int .i64 k.d], .int .i64 off, .slice pa pl pc]) (by simp [execOp, Act.eval, resolve, h0, h1, h2, h3, go_sem]) ?_
      have hJ0 : Below wr.heap.size wr w1 := hJ
      have hop := write_ri (Hr.out.later hJ0) hl hn hq off hof pa pl pc l (HROW.out w1 g S (Hr.out.later hJ0)) hlen hm6
      rw [hk] at hop
      unfold kv at hop
      refine hop.mono ?_
      rintro e w' ⟨⟨c, rfl⟩, hac⟩
      exact ⟨_, rfl, ⟨c, rfl⟩, jP_one hJ0 hac, hcalm _ _⟩
    · intro i hi a w1 hJ hsz hs      -- heavy 1: op 14 slot 46
      obtain rfl : 14 = i := Option.some.inj hi
      obtain ⟨h0, h1, h2, _⟩ := hs
      have h0 : a.tmps.getD 39 undef = .pointer (some ⟨x, 0, .none⟩) := h0
      have h1 : a.tmps.getD 40 undef = .agg #[.int .i64 k.a, .int .i64 k.b, .int .i64 k.c, .int .i64 k.d] := h1
      have h2 : a.tmps.getD 45 undef = rdV 2 off ByteArray.empty (.slice pa pl pc) := h2
      have hcalm : ∀ (wq1 wq2 : World) (kk : Nat) (v0 : Value), kk ≠ 14 → VL [cV (.pointer (some ⟨b, 0, .none⟩)), cV (.agg #[.int .i64 k.a, .int .i64 k.b, .int .i64 k.c, .int .i64 k.d]), cV (.pointer (some ⟨w.heap.size, 2, .none⟩)), cV (.int .i64 off), cV (.pointer (some ⟨w.heap.size, 9, .none⟩)), cV (.slice pa pl pc), iV, cV (.pointer (some ⟨x, 0, .none⟩)), cV (.agg #[.int .i64 k.a, .int .i64 k.b, .int .i64 k.c, .int .i64 k.d]), cV (.pointer (some ⟨w.heap.size, 2, .none⟩)), cV (.int .i64 off), cV (.pointer (some ⟨w.heap.size, 9, .none⟩)), cV (.slice pa pl pc), cV (rdV 2 off ByteArray.empty (.slice pa pl pc)), nV, nV, nV] kk wq1 v0 → VL [cV (.pointer (some ⟨b, 0, .none⟩)), cV (.agg #[.int .i64 k.a, .int .i64 k.b, .int .i64 k.c, .int .i64 k.d]), cV (.pointer (some ⟨w.heap.size, 2, .none⟩)), cV (.int .i64 off), cV (.pointer (some ⟨w.heap.size, 9, .none⟩)), cV (.slice pa pl pc), iV, cV (.pointer (some ⟨x, 0, .none⟩)), cV (.agg #[.int .i64 k.a, .int .i64 k.b, .int .i64 k.c, .int .i64 k.d]), cV (.pointer (some ⟨w.heap.size, 2, .none⟩)), cV (.int .i64 off), cV (.pointer (some ⟨w.heap.size, 9, .none⟩)), cV (.slice pa pl pc), cV (rdV 2 off ByteArray.empty (.slice pa pl pc)), iV, bV1, bV1] kk wq2 v0 := Calm3.all (n := 0) ⟨.inr fun _ _ _ h => h, .inr fun _ _ _ h => h, .inr fun _ _ _ h => h, .inr fun _ _ _ h => h, .inr fun _ _ _ h => h, .inr fun _ _ _ h => h, .inr fun _ _ _ h => h, .inr fun _ _ _ h => h, .inr fun _ _ _ h => h, .inr fun _ _ _ h => h, .inr fun _ _ _ h => h, .inr fun _ _ _ h => h, .inr fun _ _ _ h => h, .inr fun _ _ _ h => h, .inl rfl, .inr fun _ _ _ h => h.elim, .inr fun _ _ _ h => h.elim, trivial⟩
      refine hv_call rfl rfl (f := 48) (args := #[.pointer (some ⟨x, 0, .none⟩), .agg #[.int .i64 k.a, .int .i64 k.b, .int .i64 k.c, .int .i64 k.d], rdV 2 off ByteArray.empty (.slice pa pl pc)]) (by simp [execOp, Act.eval, resolve, h0, h1, h2, go_sem]) ?_
      have hRF := HXr.out.held (jP_keep 1 (by decide) hJ x HXr.out.lt (.inr hxo))
      have hop := rdo_no w1 x 0 hRF k (by rw [← hk]; exact keyW_right hq) 2 off ByteArray.empty pa pl pc rfl
      unfold kv at hop
      refine hop.mono ?_
      rintro e w' ⟨rfl, hbb⟩
      exact ⟨_, rfl, ⟨_, rfl⟩, jP_two hJ hxo HXr.out.lt (Bt.of_below hbb x), hcalm _ _⟩
  intro f w1 hJ hv
  try simp only [Exit.then]
  simp only [putAll, List.foldl_cons, List.foldl_nil, Option.getD_some, Act.put, List.setIfInBounds_toArray, List.set_cons_succ, List.set_cons_zero]
  obtain ⟨qv, e6⟩ : ∃ c, f 6 = .bool c := hv 16 _ 6 rfl rfl
  clear hv
  have HST : Hid (∃ g' S', NSto w0 w1 b g' S' ∧ RI S' room (n + 1)) := Lib.hid hJ
  clear hJ
  rw [e6]
  go_wp2_with fail
  go_ret
  exact ⟨⟨_, rfl⟩, HST.out⟩
-- END J6

set_option maxRecDepth 20000 in
theorem deed_2 (w0 w : World) (b x : Nat) (g : Gh) (S : St) (room : Int) (n : Nat) (h : NSto w0 w b g S) (hl : RI S room n) (hn : n ≤ 900) (hx : RefAt w x 0) (hxo : g.r x = .own) (A : ActP) (hraw : A.raw = false) (hwh : A.what = 2) (l : List UInt8) (hr : Row w0 A.pa A.pc l) (hlen : l.length = A.pl) (hm6 : A.pl ≤ 60) (hnm : A.nm.size ≤ 30) (hof : -9223372036854775808 ≤ A.off ∧ A.off ≤ 9223372036854775807) :
    Calls Try.prog 20 #[.pointer (some ⟨b, 0, .none⟩), .pointer (some ⟨x, 0, .none⟩), .agg A.cs] w fun e w' => Deeded w0 b room n e w' := by
  obtain ⟨wh, wi, off, nq, raw, ⟨ka, kb, kc, kd⟩, pa, pl, pc, nm, qa, ql, qc⟩ := A
  simp only at hraw hwh hr hlen hm6 hnm hof
  subst hraw hwh
  obtain ⟨cs, hcs⟩ : ∃ cs, (⟨2, wi, off, nq, false, ⟨ka, kb, kc, kd⟩, pa, pl, pc, nm, qa, ql, qc⟩ : ActP).cs = cs := ⟨_, rfl⟩
  have HA := Lib.hid (fun W => key_any ⟨2, wi, off, nq, false, ⟨ka, kb, kc, kd⟩, pa, pl, pc, nm, qa, ql, qc⟩ rfl W)
  obtain ⟨w1, hwe⟩ : ∃ w1, w.alloc (.cells cs 44) = w1 := ⟨_, rfl⟩
  have hb1 : Below w.heap.size w w1 := by rw [← hwe]; exact (Below.refl _ _).alloc (Nat.le_refl _) _
  have hR1 : RecAt w1 w.heap.size cs 44 := by rw [← hwe]; exact RecAt.new _ _ _
  have hj1 : g.r w.heap.size = .junk := h.sto.dom _ (Nat.le_refl _)
  rw [hcs] at HA
  subst hcs
  unfold ActP.cs at HA hR1 hwe ⊢
  simp only at HA hR1 hwe ⊢
  have r0 := hR1.cell (i := 0) rfl
  have r1 := hR1.cell (i := 1) rfl
  have r2 := hR1.cell (i := 2) rfl
  have r3 := hR1.cell (i := 3) rfl
  have r4 := hR1.cell (i := 4) rfl
  have r5 := hR1.cell (i := 5) rfl
  have r6 := hR1.cell (i := 6) rfl
  have r7 := hR1.cell (i := 7) rfl
  have r8 := hR1.cell (i := 8) rfl
  have r9 := hR1.cell (i := 9) rfl
  have r10 := hR1.cell (i := 10) rfl
  have r11 := hR1.cell (i := 11) rfl
  have HR1 := Lib.hid hR1
  have H1 := Lib.hid (h.later hb1)
  have HX1 := Lib.hid (hx.later hb1)
  have HB1 := Lib.hid hb1
  clear h hx hb1 hR1
  go_enter Try.func20, Try.ntmps20
  go_upto_region 1 with fail
  clear hwe
  go_wp2_with fail
  refine (HA.out w1).mono ?_
  rintro e w2 ⟨q, hq, rfl, hb2⟩
  have HR2 := Lib.hid (HR1.out.later hb2)
  have H2 := Lib.hid (H1.out.later hb2)
  have HX2 := Lib.hid (HX1.out.later hb2)
  clear r0 r1 r2 r3 r4 r5 r6 r7 r8 r9 r10 r11 HA HR1 H1 HX1
  obtain ⟨k, hk⟩ : ∃ k, keyW q = k := ⟨_, rfl⟩
  obtain ⟨z, hz⟩ : ∃ z, w2.heap.size = z := ⟨_, rfl⟩
  rw [hk]
  obtain ⟨wr, hwe⟩ : ∃ wr, w2.alloc (.cells #[.int .i64 k.a, .int .i64 k.b, .int .i64 k.c, .int .i64 k.d] 27) = wr := ⟨_, rfl⟩
  have hb3 : Below w2.heap.size w2 wr := by rw [← hwe]; exact (Below.refl _ _).alloc (Nat.le_refl _) _
  have hKr : KeyAt wr w2.heap.size k := by rw [← hwe]; exact KeyAt.new w2 k
  rw [hz] at hKr
  have hzj : g.r z = .junk := by rw [← hz]; exact H2.out.sto.dom _ (Nat.le_refl _)
  have hRr := HR2.out.later hb3
  have d0 : wr.cell? ⟨w.heap.size, 0, .none⟩ = some (.int .i64 2) := hRr.cell (i := 0) rfl
  have HRr := Lib.hid hRr
  have HKr := Lib.hid hKr
  have Hr := Lib.hid (H2.out.later hb3)
  have HXr := Lib.hid (HX2.out.later hb3)
  have HROW := Lib.hid (fun w' (g' : Gh) (S' : St) (h' : NSto w0 w' b g' S') => hr.later h'.below)
  clear hb2 hb3 hKr hRr HR2 H2 HX2 hr
  unfold kv
  go_upto_region 2 with fail
  clear hwe hz
  go_upto_region 8 with fail
-- REG J8
  refine wp_region_ptab (L := fun ph => match ph with | 0 => [cV (.pointer (some ⟨b, 0, .none⟩)), cV (.agg #[.int .i64 k.a, .int .i64 k.b, .int .i64 k.c, .int .i64 k.d]), cV (.pointer (some ⟨w.heap.size, 9, .none⟩)), cV (.slice pa pl pc), nV, cV (.pointer (some ⟨x, 0, .none⟩)), cV (.agg #[.int .i64 k.a, .int .i64 k.b, .int .i64 k.c, .int .i64 k.d]), cV (.pointer (some ⟨w.heap.size, 9, .none⟩)), cV (.slice pa pl pc), cV (rdV 6 0 ByteArray.empty (.slice pa pl pc)), nV, nV, nV] | 1 => [cV (.pointer (some ⟨b, 0, .none⟩)), cV (.agg #[.int .i64 k.a, .int .i64 k.b, .int .i64 k.c, .int .i64 k.d]), cV (.pointer (some ⟨w.heap.size, 9, .none⟩)), cV (.slice pa pl pc), iV, cV (.pointer (some ⟨x, 0, .none⟩)), cV (.agg #[.int .i64 k.a, .int .i64 k.b, .int .i64 k.c, .int .i64 k.d]), cV (.pointer (some ⟨w.heap.size, 9, .none⟩)), cV (.slice pa pl pc), cV (rdV 6 0 ByteArray.empty (.slice pa pl pc)), nV, nV, nV] | _ => [cV (.pointer (some ⟨b, 0, .none⟩)), cV (.agg #[.int .i64 k.a, .int .i64 k.b, .int .i64 k.c, .int .i64 k.d]), cV (.pointer (some ⟨w.heap.size, 9, .none⟩)), cV (.slice pa pl pc), iV, cV (.pointer (some ⟨x, 0, .none⟩)), cV (.agg #[.int .i64 k.a, .int .i64 k.b, .int .i64 k.c, .int .i64 k.d]), cV (.pointer (some ⟨w.heap.size, 9, .none⟩)), cV (.slice pa pl pc), cV (rdV 6 0 ByteArray.empty (.slice pa pl pc)), iV, bV1, bV1]) (jP w0 wr b room n g) [4, 10] [(0, 0), (0, 0), (0, 0), (0, 0), (0, 2), (0, 1), (0, 1), (0, 1), (0, 1), (0, 1), (0, 2), (2, 2), (2, 2)] [[(0, none)], [(7, none)], [(5, none)], [(52, some 2)], [(50, some 0), (51, some 1), (53, some 3)], [(1, none)], [(7, none)], [(5, none)], [(57, some 7)], [(58, some 8)], [(55, some 5), (56, some 6), (59, some 9)], [(54, some 4), (60, some 10)], [(61, some 11)]] 13 2 211 (by kernel_rfl) rfl rfl rfl (by kernel_rfl) (by kernel_rfl) (by decide) (by kernel_rfl) ?_ ?_ ?_ ?_ ?_
  · exact fun ph w1 w2 h hb => jP_st ph h hb
  · exact Below.refl _ _
  · show ∀ i, i < 13 → _
    iterate 13 (refine fls ?_ ?_)
    · exact fl0
    · intro hne lo hi ph hran hp1 hp2 a w1 hJ hsz hs      -- 0: slot 50
      obtain ⟨rfl, rfl⟩ : 0 = lo ∧ 0 = hi := Prod.mk.inj (Option.some.inj hran)
      obtain rfl : ph = 0 := by omega
      obtain ⟨h0, _⟩ := hs
      have h0 : a.tmps.getD 0 undef = .pointer (some ⟨b, 0, .none⟩) := h0
      refine op_run rfl rfl (v := .pointer (some ⟨b, 0, .none⟩)) (w' := w1) ?_ rfl (Below.refl _ _)
      simp [execOp, Act.eval, h0, go_sem]
    · intro hne lo hi ph hran hp1 hp2 a w1 hJ hsz hs      -- 1: slot 51
      obtain ⟨rfl, rfl⟩ : 0 = lo ∧ 0 = hi := Prod.mk.inj (Option.some.inj hran)
      obtain rfl : ph = 0 := by omega
      obtain ⟨h0, _⟩ := hs
      have h0 : a.tmps.getD 7 undef = .pointer (some ⟨z, 0, .none⟩) := h0
      obtain ⟨c, c', c'', c'''⟩ := KeyAt.cells (HKr.out.held (jP_keep 0 (by decide) hJ z HKr.out.lt (.inl hzj)))
      refine op_run rfl rfl (v := .agg #[.int .i64 k.a, .int .i64 k.b, .int .i64 k.c, .int .i64 k.d]) (w' := w1) ?_ rfl (Below.refl _ _)
      simp [execOp, Act.eval, h0, c, c', c'', c''', go_sem]
    · intro hne lo hi ph hran hp1 hp2 a w1 hJ hsz hs      -- 2: slot 52
      obtain ⟨rfl, rfl⟩ : 0 = lo ∧ 0 = hi := Prod.mk.inj (Option.some.inj hran)
      obtain rfl : ph = 0 := by omega
      obtain ⟨h0, _⟩ := hs
      have h0 : a.tmps.getD 5 undef = .pointer (some ⟨w.heap.size, 0, .none⟩) := h0
      refine op_run rfl rfl (v := .pointer (some ⟨w.heap.size, 9, .none⟩)) (w' := w1) ?_ rfl (Below.refl _ _)
      simp [execOp, Act.eval, h0, go_sem]
    · intro hne lo hi ph hran hp1 hp2 a w1 hJ hsz hs      -- 3: slot 53
      obtain ⟨rfl, rfl⟩ : 0 = lo ∧ 0 = hi := Prod.mk.inj (Option.some.inj hran)
      obtain rfl : ph = 0 := by omega
      obtain ⟨h0, _⟩ := hs
      have h0 : a.tmps.getD 52 undef = .pointer (some ⟨w.heap.size, 9, .none⟩) := h0
      have c : w1.cell? ⟨w.heap.size, 9, .none⟩ = some (.slice pa pl pc) := (HRr.out.held (jP_keep 0 (by decide) hJ w.heap.size HRr.out.lt (.inl hj1))).cell (i := 9) rfl
      refine op_run rfl rfl (v := .slice pa pl pc) (w' := w1) ?_ rfl (Below.refl _ _)
      simp [execOp, Act.eval, h0, c, go_sem]
    · intro hne lo hi ph hran hp1 hp2 a w1 hJ hsz hs      -- 4: slot 54
      exact absurd (by decide) hne
    · intro hne lo hi ph hran hp1 hp2 a w1 hJ hsz hs      -- 5: slot 55
      obtain ⟨rfl, rfl⟩ : 0 = lo ∧ 1 = hi := Prod.mk.inj (Option.some.inj hran)
      rcases (by omega : ph = 0 ∨ ph = 1) with rfl | rfl
      · obtain ⟨h0, _⟩ := hs
        have h0 : a.tmps.getD 1 undef = .pointer (some ⟨x, 0, .none⟩) := h0
        refine op_run rfl rfl (v := .pointer (some ⟨x, 0, .none⟩)) (w' := w1) ?_ rfl (Below.refl _ _)
        simp [execOp, Act.eval, h0, go_sem]
      · obtain ⟨h0, _⟩ := hs
        have h0 : a.tmps.getD 1 undef = .pointer (some ⟨x, 0, .none⟩) := h0
        refine op_run rfl rfl (v := .pointer (some ⟨x, 0, .none⟩)) (w' := w1) ?_ rfl (Below.refl _ _)
        simp [execOp, Act.eval, h0, go_sem]
    · intro hne lo hi ph hran hp1 hp2 a w1 hJ hsz hs      -- 6: slot 56
      obtain ⟨rfl, rfl⟩ : 0 = lo ∧ 1 = hi := Prod.mk.inj (Option.some.inj hran)
      rcases (by omega : ph = 0 ∨ ph = 1) with rfl | rfl
      · obtain ⟨h0, _⟩ := hs
        have h0 : a.tmps.getD 7 undef = .pointer (some ⟨z, 0, .none⟩) := h0
        obtain ⟨c, c', c'', c'''⟩ := KeyAt.cells (HKr.out.held (jP_keep 0 (by decide) hJ z HKr.out.lt (.inl hzj)))
        refine op_run rfl rfl (v := .agg #[.int .i64 k.a, .int .i64 k.b, .int .i64 k.c, .int .i64 k.d]) (w' := w1) ?_ rfl (Below.refl _ _)
        simp [execOp, Act.eval, h0, c, c', c'', c''', go_sem]
      · obtain ⟨h0, _⟩ := hs
        have h0 : a.tmps.getD 7 undef = .pointer (some ⟨z, 0, .none⟩) := h0
        obtain ⟨c, c', c'', c'''⟩ := KeyAt.cells (HKr.out.held (jP_keep 1 (by decide) hJ z HKr.out.lt (.inl hzj)))
        refine op_run rfl rfl (v := .agg #[.int .i64 k.a, .int .i64 k.b, .int .i64 k.c, .int .i64 k.d]) (w' := w1) ?_ rfl (Below.refl _ _)
        simp [execOp, Act.eval, h0, c, c', c'', c''', go_sem]
    · intro hne lo hi ph hran hp1 hp2 a w1 hJ hsz hs      -- 7: slot 57
      obtain ⟨rfl, rfl⟩ : 0 = lo ∧ 1 = hi := Prod.mk.inj (Option.some.inj hran)
      rcases (by omega : ph = 0 ∨ ph = 1) with rfl | rfl
      · obtain ⟨h0, _⟩ := hs
        have h0 : a.tmps.getD 5 undef = .pointer (some ⟨w.heap.size, 0, .none⟩) := h0
        refine op_run rfl rfl (v := .pointer (some ⟨w.heap.size, 9, .none⟩)) (w' := w1) ?_ rfl (Below.refl _ _)
        simp [execOp, Act.eval, h0, go_sem]
      · obtain ⟨h0, _⟩ := hs
        have h0 : a.tmps.getD 5 undef = .pointer (some ⟨w.heap.size, 0, .none⟩) := h0
        refine op_run rfl rfl (v := .pointer (some ⟨w.heap.size, 9, .none⟩)) (w' := w1) ?_ rfl (Below.refl _ _)
        simp [execOp, Act.eval, h0, go_sem]
    · intro hne lo hi ph hran hp1 hp2 a w1 hJ hsz hs      -- 8: slot 58
      obtain ⟨rfl, rfl⟩ : 0 = lo ∧ 1 = hi := Prod.mk.inj (Option.some.inj hran)
      rcases (by omega : ph = 0 ∨ ph = 1) with rfl | rfl
      · obtain ⟨h0, _⟩ := hs
        have h0 : a.tmps.getD 57 undef = .pointer (some ⟨w.heap.size, 9, .none⟩) := h0
        have c : w1.cell? ⟨w.heap.size, 9, .none⟩ = some (.slice pa pl pc) := (HRr.out.held (jP_keep 0 (by decide) hJ w.heap.size HRr.out.lt (.inl hj1))).cell (i := 9) rfl
        refine op_run rfl rfl (v := .slice pa pl pc) (w' := w1) ?_ rfl (Below.refl _ _)
        simp [execOp, Act.eval, h0, c, go_sem]
      · obtain ⟨h0, _⟩ := hs
        have h0 : a.tmps.getD 57 undef = .pointer (some ⟨w.heap.size, 9, .none⟩) := h0
        have c : w1.cell? ⟨w.heap.size, 9, .none⟩ = some (.slice pa pl pc) := (HRr.out.held (jP_keep 1 (by decide) hJ w.heap.size HRr.out.lt (.inl hj1))).cell (i := 9) rfl
        refine op_run rfl rfl (v := .slice pa pl pc) (w' := w1) ?_ rfl (Below.refl _ _)
        simp [execOp, Act.eval, h0, c, go_sem]
    · intro hne lo hi ph hran hp1 hp2 a w1 hJ hsz hs      -- 9: slot 59
      obtain ⟨rfl, rfl⟩ : 0 = lo ∧ 1 = hi := Prod.mk.inj (Option.some.inj hran)
      rcases (by omega : ph = 0 ∨ ph = 1) with rfl | rfl
      · obtain ⟨h0, _⟩ := hs
        have h0 : a.tmps.getD 58 undef = .slice pa pl pc := h0
        have g0 : a.tmps[58]?.getD undef = .slice pa pl pc := (Array.getD_eq_getD_getElem? ..).symm.trans h0
        have e0 : a.tmps[58]?.getD undef = .slice pa pl pc := by rw [← h0]; exact (Array.getD_eq_getD_getElem?).symm
        refine op_run rfl rfl (v := rdV 6 0 ByteArray.empty (.slice pa pl pc)) (w' := w1) ?_ rfl (Below.refl _ _)
        simp [execOp, Act.eval, rdV, e0, go_sem]
        rfl
      · obtain ⟨h0, _⟩ := hs
        have h0 : a.tmps.getD 58 undef = .slice pa pl pc := h0
        have g0 : a.tmps[58]?.getD undef = .slice pa pl pc := (Array.getD_eq_getD_getElem? ..).symm.trans h0
        have e0 : a.tmps[58]?.getD undef = .slice pa pl pc := by rw [← h0]; exact (Array.getD_eq_getD_getElem?).symm
        refine op_run rfl rfl (v := rdV 6 0 ByteArray.empty (.slice pa pl pc)) (w' := w1) ?_ rfl (Below.refl _ _)
        simp [execOp, Act.eval, rdV, e0, go_sem]
        rfl
    · intro hne lo hi ph hran hp1 hp2 a w1 hJ hsz hs      -- 10: slot 60
      exact absurd (by decide) hne
    · intro hne lo hi ph hran hp1 hp2 a w1 hJ hsz hs      -- 11: slot 61
      obtain ⟨rfl, rfl⟩ : 2 = lo ∧ 2 = hi := Prod.mk.inj (Option.some.inj hran)
      obtain rfl : ph = 2 := by omega
      obtain ⟨h0, h1, _⟩ := hs
      obtain ⟨v0, e0, q0, m0⟩ : ∃ v, a.tmps.getD 54 undef = v ∧ iV.p w1 v := ⟨_, rfl, h0⟩
      obtain ⟨v1, e1, q1, m1⟩ : ∃ v, a.tmps.getD 60 undef = v ∧ iV.p w1 v := ⟨_, rfl, h1⟩
      subst m0 m1
      have e0 : a.tmps[54]?.getD undef = .int .i64 q0 := by rw [← e0]; exact (Array.getD_eq_getD_getElem?).symm
      have e1 : a.tmps[60]?.getD undef = .int .i64 q1 := by rw [← e1]; exact (Array.getD_eq_getD_getElem?).symm
      refine op_run rfl rfl (v := .bool (q0 == q1)) (w' := w1) ?_ ⟨_, rfl⟩ (Below.refl _ _)
      simp [execOp, Act.eval, e0, e1, go_sem]
    · intro hne lo hi ph hran hp1 hp2 a w1 hJ hsz hs      -- 12: slot 6
      obtain ⟨rfl, rfl⟩ : 2 = lo ∧ 2 = hi := Prod.mk.inj (Option.some.inj hran)
      obtain rfl : ph = 2 := by omega
      obtain ⟨h0, _⟩ := hs
      obtain ⟨v0, e0, q0, m0⟩ : ∃ v, a.tmps.getD 61 undef = v ∧ bV1.p w1 v := ⟨_, rfl, h0⟩
      subst m0
      have e0 : a.tmps[61]?.getD undef = .bool q0 := by rw [← e0]; exact (Array.getD_eq_getD_getElem?).symm
      refine op_run rfl rfl (v := .bool q0) (w' := w1) ?_ ⟨_, rfl⟩ (Below.refl _ _)
      simp [execOp, Act.eval, e0, go_sem]
  · show ∀ ph, ph < 2 → _
    iterate 2 (refine fls ?_ ?_)
    · exact fl0
    · intro i hi a w1 hJ hsz hs      -- heavy 0: op 4 slot 54
      obtain rfl : 4 = i := Option.some.inj hi
      obtain ⟨h0, h1, h2, _⟩ := hs
      have h0 : a.tmps.getD 50 undef = .pointer (some ⟨b, 0, .none⟩) := h0
      have h1 : a.tmps.getD 51 undef = .agg #[.int .i64 k.a, .int .i64 k.b, .int .i64 k.c, .int .i64 k.d] := h1
      have h2 : a.tmps.getD 53 undef = .slice pa pl pc := h2
      have hcalm : ∀ (wq1 wq2 : World) (kk : Nat) (v0 : Value), kk ≠ 4 → VL [cV (.pointer (some ⟨b, 0, .none⟩)), cV (.agg #[.int .i64 k.a, .int .i64 k.b, .int .i64 k.c, .int .i64 k.d]), cV (.pointer (some ⟨w.heap.size, 9, .none⟩)), cV (.slice pa pl pc), nV, cV (.pointer (some ⟨x, 0, .none⟩)), cV (.agg #[.int .i64 k.a, .int .i64 k.b, .int .i64 k.c, .int .i64 k.d]), cV (.pointer (some ⟨w.heap.size, 9, .none⟩)), cV (.slice pa pl pc), cV (rdV 6 0 ByteArray.empty (.slice pa pl pc)), nV, nV, nV] kk wq1 v0 → VL [cV (.pointer (some ⟨b, 0, .none⟩)), cV (.agg #[.int .i64 k.a, .int .i64 k.b, .int .i64 k.c, .int .i64 k.d]), cV (.pointer (some ⟨w.heap.size, 9, .none⟩)), cV (.slice pa pl pc), iV, cV (.pointer (some ⟨x, 0, .none⟩)), cV (.agg #[.int .i64 k.a, .int .i64 k.b, .int .i64 k.c, .int .i64 k.d]), cV (.pointer (some ⟨w.heap.size, 9, .none⟩)), cV (.slice pa pl pc), cV (rdV 6 0 ByteArray.empty (.slice pa pl pc)), nV, nV, nV] kk wq2 v0 := Calm3.all (n := 0) ⟨.inr fun _ _ _ h => h, .inr fun _ _ _ h => h, .inr fun _ _ _ h => h, .inr fun _ _ _ h => h, .inl rfl, .inr fun _ _ _ h => h, .inr fun _ _ _ h => h, .inr fun _ _ _ h => h, .inr fun _ _ _ h => h, .inr fun _ _ _ h => h, .inr fun _ _ _ h => h.elim, .inr fun _ _ _ h => h.elim, .inr fun _ _ _ h => h.elim, trivial⟩
      refine hv_call rfl rfl (f := 12) (args := #[.pointer (some ⟨b, 0, .none⟩), .agg #[.int .i64 k.a, .int .i64 k.b, .int .i64 k.c, .int .i64 k.d], .slice pa pl pc]) (by simp [execOp, Act.eval, resolve, h0, h1, h2, go_sem]) ?_
      have hJ0 : Below wr.heap.size wr w1 := hJ
      have hop := append_ri (Hr.out.later hJ0) hl hn hq pa pl pc l (HROW.out w1 g S (Hr.out.later hJ0)) hlen hm6
      rw [hk] at hop
      unfold kv at hop
      refine hop.mono ?_
      rintro e w' ⟨⟨c, rfl, _⟩, hac⟩
      exact ⟨_, rfl, ⟨c, rfl⟩, jP_one hJ0 hac, hcalm _ _⟩
    · intro i hi a w1 hJ hsz hs      -- heavy 1: op 10 slot 60
      obtain rfl : 10 = i := Option.some.inj hi
      obtain ⟨h0, h1, h2, _⟩ := hs
      have h0 : a.tmps.getD 55 undef = .pointer (some ⟨x, 0, .none⟩) := h0
      have h1 : a.tmps.getD 56 undef = .agg #[.int .i64 k.a, .int .i64 k.b, .int .i64 k.c, .int .i64 k.d] := h1
      have h2 : a.tmps.getD 59 undef = rdV 6 0 ByteArray.empty (.slice pa pl pc) := h2
      have hcalm : ∀ (wq1 wq2 : World) (kk : Nat) (v0 : Value), kk ≠ 10 → VL [cV (.pointer (some ⟨b, 0, .none⟩)), cV (.agg #[.int .i64 k.a, .int .i64 k.b, .int .i64 k.c, .int .i64 k.d]), cV (.pointer (some ⟨w.heap.size, 9, .none⟩)), cV (.slice pa pl pc), iV, cV (.pointer (some ⟨x, 0, .none⟩)), cV (.agg #[.int .i64 k.a, .int .i64 k.b, .int .i64 k.c, .int .i64 k.d]), cV (.pointer (some ⟨w.heap.size, 9, .none⟩)), cV (.slice pa pl pc), cV (rdV 6 0 ByteArray.empty (.slice pa pl pc)), nV, nV, nV] kk wq1 v0 → VL [cV (.pointer (some ⟨b, 0, .none⟩)), cV (.agg #[.int .i64 k.a, .int .i64 k.b, .int .i64 k.c, .int .i64 k.d]), cV (.pointer (some ⟨w.heap.size, 9, .none⟩)), cV (.slice pa pl pc), iV, cV (.pointer (some ⟨x, 0, .none⟩)), cV (.agg #[.int .i64 k.a, .int .i64 k.b, .int .i64 k.c, .int .i64 k.d]), cV (.pointer (some ⟨w.heap.size, 9, .none⟩)), cV (.slice pa pl pc), cV (rdV 6 0 ByteArray.empty (.slice pa pl pc)), iV, bV1, bV1] kk wq2 v0 := Calm3.all (n := 0) ⟨.inr fun _ _ _ h => h, .inr fun _ _ _ h => h, .inr fun _ _ _ h => h, .inr fun _ _ _ h => h, .inr fun _ _ _ h => h, .inr fun _ _ _ h => h, .inr fun _ _ _ h => h, .inr fun _ _ _ h => h, .inr fun _ _ _ h => h, .inr fun _ _ _ h => h, .inl rfl, .inr fun _ _ _ h => h.elim, .inr fun _ _ _ h => h.elim, trivial⟩
      refine hv_call rfl rfl (f := 48) (args := #[.pointer (some ⟨x, 0, .none⟩), .agg #[.int .i64 k.a, .int .i64 k.b, .int .i64 k.c, .int .i64 k.d], rdV 6 0 ByteArray.empty (.slice pa pl pc)]) (by simp [execOp, Act.eval, resolve, h0, h1, h2, go_sem]) ?_
      have hRF := HXr.out.held (jP_keep 1 (by decide) hJ x HXr.out.lt (.inr hxo))
      have hop := rdo_no w1 x 0 hRF k (by rw [← hk]; exact keyW_right hq) 6 0 ByteArray.empty pa pl pc rfl
      unfold kv at hop
      refine hop.mono ?_
      rintro e w' ⟨rfl, hbb⟩
      exact ⟨_, rfl, ⟨_, rfl⟩, jP_two hJ hxo HXr.out.lt (Bt.of_below hbb x), hcalm _ _⟩
  intro f w1 hJ hv
  try simp only [Exit.then]
  simp only [putAll, List.foldl_cons, List.foldl_nil, Option.getD_some, Act.put, List.setIfInBounds_toArray, List.set_cons_succ, List.set_cons_zero]
  obtain ⟨qv, e6⟩ : ∃ c, f 6 = .bool c := hv 12 _ 6 rfl rfl
  clear hv
  have HST : Hid (∃ g' S', NSto w0 w1 b g' S' ∧ RI S' room (n + 1)) := Lib.hid hJ
  clear hJ
  rw [e6]
  go_wp2_with fail
  go_ret
  exact ⟨⟨_, rfl⟩, HST.out⟩
-- END J8

set_option maxRecDepth 20000 in
theorem deed_3 (w0 w : World) (b x : Nat) (g : Gh) (S : St) (room : Int) (n : Nat) (h : NSto w0 w b g S) (hl : RI S room n) (hn : n ≤ 900) (hx : RefAt w x 0) (hxo : g.r x = .own) (A : ActP) (hraw : A.raw = false) (hwh : A.what = 3) (l : List UInt8) (hr : Row w0 A.pa A.pc l) (hlen : l.length = A.pl) (hm6 : A.pl ≤ 60) (hnm : A.nm.size ≤ 30) (hof : -9223372036854775808 ≤ A.off ∧ A.off ≤ 9223372036854775807) :
    Calls Try.prog 20 #[.pointer (some ⟨b, 0, .none⟩), .pointer (some ⟨x, 0, .none⟩), .agg A.cs] w fun e w' => Deeded w0 b room n e w' := by
  obtain ⟨wh, wi, off, nq, raw, ⟨ka, kb, kc, kd⟩, pa, pl, pc, nm, qa, ql, qc⟩ := A
  simp only at hraw hwh hr hlen hm6 hnm hof
  subst hraw hwh
  obtain ⟨cs, hcs⟩ : ∃ cs, (⟨3, wi, off, nq, false, ⟨ka, kb, kc, kd⟩, pa, pl, pc, nm, qa, ql, qc⟩ : ActP).cs = cs := ⟨_, rfl⟩
  have HA := Lib.hid (fun W => key_any ⟨3, wi, off, nq, false, ⟨ka, kb, kc, kd⟩, pa, pl, pc, nm, qa, ql, qc⟩ rfl W)
  obtain ⟨w1, hwe⟩ : ∃ w1, w.alloc (.cells cs 44) = w1 := ⟨_, rfl⟩
  have hb1 : Below w.heap.size w w1 := by rw [← hwe]; exact (Below.refl _ _).alloc (Nat.le_refl _) _
  have hR1 : RecAt w1 w.heap.size cs 44 := by rw [← hwe]; exact RecAt.new _ _ _
  have hj1 : g.r w.heap.size = .junk := h.sto.dom _ (Nat.le_refl _)
  rw [hcs] at HA
  subst hcs
  unfold ActP.cs at HA hR1 hwe ⊢
  simp only at HA hR1 hwe ⊢
  have r0 := hR1.cell (i := 0) rfl
  have r1 := hR1.cell (i := 1) rfl
  have r2 := hR1.cell (i := 2) rfl
  have r3 := hR1.cell (i := 3) rfl
  have r4 := hR1.cell (i := 4) rfl
  have r5 := hR1.cell (i := 5) rfl
  have r6 := hR1.cell (i := 6) rfl
  have r7 := hR1.cell (i := 7) rfl
  have r8 := hR1.cell (i := 8) rfl
  have r9 := hR1.cell (i := 9) rfl
  have r10 := hR1.cell (i := 10) rfl
  have r11 := hR1.cell (i := 11) rfl
  have HR1 := Lib.hid hR1
  have H1 := Lib.hid (h.later hb1)
  have HX1 := Lib.hid (hx.later hb1)
  have HB1 := Lib.hid hb1
  clear h hx hb1 hR1
  go_enter Try.func20, Try.ntmps20
  go_upto_region 1 with fail
  clear hwe
  go_wp2_with fail
  refine (HA.out w1).mono ?_
  rintro e w2 ⟨q, hq, rfl, hb2⟩
  have HR2 := Lib.hid (HR1.out.later hb2)
  have H2 := Lib.hid (H1.out.later hb2)
  have HX2 := Lib.hid (HX1.out.later hb2)
  clear r0 r1 r2 r3 r4 r5 r6 r7 r8 r9 r10 r11 HA HR1 H1 HX1
  obtain ⟨k, hk⟩ : ∃ k, keyW q = k := ⟨_, rfl⟩
  obtain ⟨z, hz⟩ : ∃ z, w2.heap.size = z := ⟨_, rfl⟩
  rw [hk]
  obtain ⟨wr, hwe⟩ : ∃ wr, w2.alloc (.cells #[.int .i64 k.a, .int .i64 k.b, .int .i64 k.c, .int .i64 k.d] 27) = wr := ⟨_, rfl⟩
  have hb3 : Below w2.heap.size w2 wr := by rw [← hwe]; exact (Below.refl _ _).alloc (Nat.le_refl _) _
  have hKr : KeyAt wr w2.heap.size k := by rw [← hwe]; exact KeyAt.new w2 k
  rw [hz] at hKr
  have hzj : g.r z = .junk := by rw [← hz]; exact H2.out.sto.dom _ (Nat.le_refl _)
  have hRr := HR2.out.later hb3
  have d0 : wr.cell? ⟨w.heap.size, 0, .none⟩ = some (.int .i64 3) := hRr.cell (i := 0) rfl
  have HRr := Lib.hid hRr
  have HKr := Lib.hid hKr
  have Hr := Lib.hid (H2.out.later hb3)
  have HXr := Lib.hid (HX2.out.later hb3)
  have HROW := Lib.hid (fun w' (g' : Gh) (S' : St) (h' : NSto w0 w' b g' S') => hr.later h'.below)
  clear hb2 hb3 hKr hRr HR2 H2 HX2 hr
  unfold kv
  go_upto_region 2 with fail
  clear hwe hz
  go_upto_region 10 with fail
-- REG J10
  refine wp_region_ptab (L := fun ph => match ph with | 0 => [cV (.pointer (some ⟨b, 0, .none⟩)), cV (.agg #[.int .i64 k.a, .int .i64 k.b, .int .i64 k.c, .int .i64 k.d]), cV (.pointer (some ⟨w.heap.size, 3, .none⟩)), cV (.int .i64 nq), nV, cV (.pointer (some ⟨x, 0, .none⟩)), cV (.agg #[.int .i64 k.a, .int .i64 k.b, .int .i64 k.c, .int .i64 k.d]), cV (.pointer (some ⟨w.heap.size, 3, .none⟩)), cV (.int .i64 nq), cV (rdV 3 nq ByteArray.empty (.slice none 0 0)), nV, nV, nV] | 1 => [cV (.pointer (some ⟨b, 0, .none⟩)), cV (.agg #[.int .i64 k.a, .int .i64 k.b, .int .i64 k.c, .int .i64 k.d]), cV (.pointer (some ⟨w.heap.size, 3, .none⟩)), cV (.int .i64 nq), iV, cV (.pointer (some ⟨x, 0, .none⟩)), cV (.agg #[.int .i64 k.a, .int .i64 k.b, .int .i64 k.c, .int .i64 k.d]), cV (.pointer (some ⟨w.heap.size, 3, .none⟩)), cV (.int .i64 nq), cV (rdV 3 nq ByteArray.empty (.slice none 0 0)), nV, nV, nV] | _ => [cV (.pointer (some ⟨b, 0, .none⟩)), cV (.agg #[.int .i64 k.a, .int .i64 k.b, .int .i64 k.c, .int .i64 k.d]), cV (.pointer (some ⟨w.heap.size, 3, .none⟩)), cV (.int .i64 nq), iV, cV (.pointer (some ⟨x, 0, .none⟩)), cV (.agg #[.int .i64 k.a, .int .i64 k.b, .int .i64 k.c, .int .i64 k.d]), cV (.pointer (some ⟨w.heap.size, 3, .none⟩)), cV (.int .i64 nq), cV (rdV 3 nq ByteArray.empty (.slice none 0 0)), iV, bV1, bV1]) (jP w0 wr b room n g) [4, 10] [(0, 0), (0, 0), (0, 0), (0, 0), (0, 2), (0, 1), (0, 1), (0, 1), (0, 1), (0, 1), (0, 2), (2, 2), (2, 2)] [[(0, none)], [(7, none)], [(5, none)], [(66, some 2)], [(64, some 0), (65, some 1), (67, some 3)], [(1, none)], [(7, none)], [(5, none)], [(71, some 7)], [(72, some 8)], [(69, some 5), (70, some 6), (73, some 9)], [(68, some 4), (74, some 10)], [(75, some 11)]] 13 2 211 (by kernel_rfl) rfl rfl rfl (by kernel_rfl) (by kernel_rfl) (by decide) (by kernel_rfl) ?_ ?_ ?_ ?_ ?_
  · exact fun ph w1 w2 h hb => jP_st ph h hb
  · exact Below.refl _ _
  · show ∀ i, i < 13 → _
    iterate 13 (refine fls ?_ ?_)
    · exact fl0
    · intro hne lo hi ph hran hp1 hp2 a w1 hJ hsz hs      -- 0: slot 64
      obtain ⟨rfl, rfl⟩ : 0 = lo ∧ 0 = hi := Prod.mk.inj (Option.some.inj hran)
      obtain rfl : ph = 0 := by omega
      obtain ⟨h0, _⟩ := hs
      have h0 : a.tmps.getD 0 undef = .pointer (some ⟨b, 0, .none⟩) := h0
      refine op_run rfl rfl (v := .pointer (some ⟨b, 0, .none⟩)) (w' := w1) ?_ rfl (Below.refl _ _)
      simp [execOp, Act.eval, h0, go_sem]
    · intro hne lo hi ph hran hp1 hp2 a w1 hJ hsz hs      -- 1: slot 65
      obtain ⟨rfl, rfl⟩ : 0 = lo ∧ 0 = hi := Prod.mk.inj (Option.some.inj hran)
      obtain rfl : ph = 0 := by omega
      obtain ⟨h0, _⟩ := hs
      have h0 : a.tmps.getD 7 undef = .pointer (some ⟨z, 0, .none⟩) := h0
      obtain ⟨c, c', c'', c'''⟩ := KeyAt.cells (HKr.out.held (jP_keep 0 (by decide) hJ z HKr.out.lt (.inl hzj)))
      refine op_run rfl rfl (v := .agg #[.int .i64 k.a, .int .i64 k.b, .int .i64 k.c, .int .i64 k.d]) (w' := w1) ?_ rfl (Below.refl _ _)
      simp [execOp, Act.eval, h0, c, c', c'', c''', go_sem]
    · intro hne lo hi ph hran hp1 hp2 a w1 hJ hsz hs      -- 2: slot 66
      obtain ⟨rfl, rfl⟩ : 0 = lo ∧ 0 = hi := Prod.mk.inj (Option.some.inj hran)
      obtain rfl : ph = 0 := by omega
      obtain ⟨h0, _⟩ := hs
      have h0 : a.tmps.getD 5 undef = .pointer (some ⟨w.heap.size, 0, .none⟩) := h0
      refine op_run rfl rfl (v := .pointer (some ⟨w.heap.size, 3, .none⟩)) (w' := w1) ?_ rfl (Below.refl _ _)
      simp [execOp, Act.eval, h0, go_sem]
    · intro hne lo hi ph hran hp1 hp2 a w1 hJ hsz hs      -- 3: slot 67
      obtain ⟨rfl, rfl⟩ : 0 = lo ∧ 0 = hi := Prod.mk.inj (Option.some.inj hran)
      obtain rfl : ph = 0 := by omega
      obtain ⟨h0, _⟩ := hs
      have h0 : a.tmps.getD 66 undef = .pointer (some ⟨w.heap.size, 3, .none⟩) := h0
      have c : w1.cell? ⟨w.heap.size, 3, .none⟩ = some (.int .i64 nq) := (HRr.out.held (jP_keep 0 (by decide) hJ w.heap.size HRr.out.lt (.inl hj1))).cell (i := 3) rfl
      refine op_run rfl rfl (v := .int .i64 nq) (w' := w1) ?_ rfl (Below.refl _ _)
      simp [execOp, Act.eval, h0, c, go_sem]
    · intro hne lo hi ph hran hp1 hp2 a w1 hJ hsz hs      -- 4: slot 68
      exact absurd (by decide) hne
    · intro hne lo hi ph hran hp1 hp2 a w1 hJ hsz hs      -- 5: slot 69
      obtain ⟨rfl, rfl⟩ : 0 = lo ∧ 1 = hi := Prod.mk.inj (Option.some.inj hran)
      rcases (by omega : ph = 0 ∨ ph = 1) with rfl | rfl
      · obtain ⟨h0, _⟩ := hs
        have h0 : a.tmps.getD 1 undef = .pointer (some ⟨x, 0, .none⟩) := h0
        refine op_run rfl rfl (v := .pointer (some ⟨x, 0, .none⟩)) (w' := w1) ?_ rfl (Below.refl _ _)
        simp [execOp, Act.eval, h0, go_sem]
      · obtain ⟨h0, _⟩ := hs
        have h0 : a.tmps.getD 1 undef = .pointer (some ⟨x, 0, .none⟩) := h0
        refine op_run rfl rfl (v := .pointer (some ⟨x, 0, .none⟩)) (w' := w1) ?_ rfl (Below.refl _ _)
        simp [execOp, Act.eval, h0, go_sem]
    · intro hne lo hi ph hran hp1 hp2 a w1 hJ hsz hs      -- 6: slot 70
      obtain ⟨rfl, rfl⟩ : 0 = lo ∧ 1 = hi := Prod.mk.inj (Option.some.inj hran)
      rcases (by omega : ph = 0 ∨ ph = 1) with rfl | rfl
      · obtain ⟨h0, _⟩ := hs
        have h0 : a.tmps.getD 7 undef = .pointer (some ⟨z, 0, .none⟩) := h0
        obtain ⟨c, c', c'', c'''⟩ := KeyAt.cells (HKr.out.held (jP_keep 0 (by decide) hJ z HKr.out.lt (.inl hzj)))
        refine op_run rfl rfl (v := .agg #[.int .i64 k.a, .int .i64 k.b, .int .i64 k.c, .int .i64 k.d]) (w' := w1) ?_ rfl (Below.refl _ _)
        simp [execOp, Act.eval, h0, c, c', c'', c''', go_sem]
      · obtain ⟨h0, _⟩ := hs
        have h0 : a.tmps.getD 7 undef = .pointer (some ⟨z, 0, .none⟩) := h0
        obtain ⟨c, c', c'', c'''⟩ := KeyAt.cells (HKr.out.held (jP_keep 1 (by decide) hJ z HKr.out.lt (.inl hzj)))
        refine op_run rfl rfl (v := .agg #[.int .i64 k.a, .int .i64 k.b, .int .i64 k.c, .int .i64 k.d]) (w' := w1) ?_ rfl (Below.refl _ _)
        simp [execOp, Act.eval, h0, c, c', c'', c''', go_sem]
    · intro hne lo hi ph hran hp1 hp2 a w1 hJ hsz hs      -- 7: slot 71
      obtain ⟨rfl, rfl⟩ : 0 = lo ∧ 1 = hi := Prod.mk.inj (Option.some.inj hran)
      rcases (by omega : ph = 0 ∨ ph = 1) with rfl | rfl
      · obtain ⟨h0, _⟩ := hs
        have h0 : a.tmps.getD 5 undef = .pointer (some ⟨w.heap.size, 0, .none⟩) := h0
        refine op_run rfl rfl (v := .pointer (some ⟨w.heap.size, 3, .none⟩)) (w' := w1) ?_ rfl (Below.refl _ _)
        simp [execOp, Act.eval, h0, go_sem]
      · obtain ⟨h0, _⟩ := hs
        have h0 : a.tmps.getD 5 undef = .pointer (some ⟨w.heap.size, 0, .none⟩) := h0
        refine op_run rfl rfl (v := .pointer (some ⟨w.heap.size, 3, .none⟩)) (w' := w1) ?_ rfl (Below.refl _ _)
        simp [execOp, Act.eval, h0, go_sem]
    · intro hne lo hi ph hran hp1 hp2 a w1 hJ hsz hs      -- 8: slot 72
      obtain ⟨rfl, rfl⟩ : 0 = lo ∧ 1 = hi := Prod.mk.inj (Option.some.inj hran)
      rcases (by omega : ph = 0 ∨ ph = 1) with rfl | rfl
      · obtain ⟨h0, _⟩ := hs
        have h0 : a.tmps.getD 71 undef = .pointer (some ⟨w.heap.size, 3, .none⟩) := h0
        have c : w1.cell? ⟨w.heap.size, 3, .none⟩ = some (.int .i64 nq) := (HRr.out.held (jP_keep 0 (by decide) hJ w.heap.size HRr.out.lt (.inl hj1))).cell (i := 3) rfl
        refine op_run rfl rfl (v := .int .i64 nq) (w' := w1) ?_ rfl (Below.refl _ _)
        simp [execOp, Act.eval, h0, c, go_sem]
      · obtain ⟨h0, _⟩ := hs
        have h0 : a.tmps.getD 71 undef = .pointer (some ⟨w.heap.size, 3, .none⟩) := h0
        have c : w1.cell? ⟨w.heap.size, 3, .none⟩ = some (.int .i64 nq) := (HRr.out.held (jP_keep 1 (by decide) hJ w.heap.size HRr.out.lt (.inl hj1))).cell (i := 3) rfl
        refine op_run rfl rfl (v := .int .i64 nq) (w' := w1) ?_ rfl (Below.refl _ _)
        simp [execOp, Act.eval, h0, c, go_sem]
    · intro hne lo hi ph hran hp1 hp2 a w1 hJ hsz hs      -- 9: slot 73
      obtain ⟨rfl, rfl⟩ : 0 = lo ∧ 1 = hi := Prod.mk.inj (Option.some.inj hran)
      rcases (by omega : ph = 0 ∨ ph = 1) with rfl | rfl
      · obtain ⟨h0, _⟩ := hs
        have h0 : a.tmps.getD 72 undef = .int .i64 nq := h0
        have g0 : a.tmps[72]?.getD undef = .int .i64 nq := (Array.getD_eq_getD_getElem? ..).symm.trans h0
        have e0 : a.tmps[72]?.getD undef = .int .i64 nq := by rw [← h0]; exact (Array.getD_eq_getD_getElem?).symm
        refine op_run rfl rfl (v := rdV 3 nq ByteArray.empty (.slice none 0 0)) (w' := w1) ?_ rfl (Below.refl _ _)
        simp [execOp, Act.eval, rdV, e0, go_sem]
        rfl
      · obtain ⟨h0, _⟩ := hs
        have h0 : a.tmps.getD 72 undef = .int .i64 nq := h0
        have g0 : a.tmps[72]?.getD undef = .int .i64 nq := (Array.getD_eq_getD_getElem? ..).symm.trans h0
        have e0 : a.tmps[72]?.getD undef = .int .i64 nq := by rw [← h0]; exact (Array.getD_eq_getD_getElem?).symm
        refine op_run rfl rfl (v := rdV 3 nq ByteArray.empty (.slice none 0 0)) (w' := w1) ?_ rfl (Below.refl _ _)
        simp [execOp, Act.eval, rdV, e0, go_sem]
        rfl
    · intro hne lo hi ph hran hp1 hp2 a w1 hJ hsz hs      -- 10: slot 74
      exact absurd (by decide) hne
    · intro hne lo hi ph hran hp1 hp2 a w1 hJ hsz hs      -- 11: slot 75
      obtain ⟨rfl, rfl⟩ : 2 = lo ∧ 2 = hi := Prod.mk.inj (Option.some.inj hran)
      obtain rfl : ph = 2 := by omega
      obtain ⟨h0, h1, _⟩ := hs
      obtain ⟨v0, e0, q0, m0⟩ : ∃ v, a.tmps.getD 68 undef = v ∧ iV.p w1 v := ⟨_, rfl, h0⟩
      obtain ⟨v1, e1, q1, m1⟩ : ∃ v, a.tmps.getD 74 undef = v ∧ iV.p w1 v := ⟨_, rfl, h1⟩
      subst m0 m1
      have e0 : a.tmps[68]?.getD undef = .int .i64 q0 := by rw [← e0]; exact (Array.getD_eq_getD_getElem?).symm
      have e1 : a.tmps[74]?.getD undef = .int .i64 q1 := by rw [← e1]; exact (Array.getD_eq_getD_getElem?).symm
      refine op_run rfl rfl (v := .bool (q0 == q1)) (w' := w1) ?_ ⟨_, rfl⟩ (Below.refl _ _)
      simp [execOp, Act.eval, e0, e1, go_sem]
    · intro hne lo hi ph hran hp1 hp2 a w1 hJ hsz hs      -- 12: slot 6
      obtain ⟨rfl, rfl⟩ : 2 = lo ∧ 2 = hi := Prod.mk.inj (Option.some.inj hran)
      obtain rfl : ph = 2 := by omega
      obtain ⟨h0, _⟩ := hs
      obtain ⟨v0, e0, q0, m0⟩ : ∃ v, a.tmps.getD 75 undef = v ∧ bV1.p w1 v := ⟨_, rfl, h0⟩
      subst m0
      have e0 : a.tmps[75]?.getD undef = .bool q0 := by rw [← e0]; exact (Array.getD_eq_getD_getElem?).symm
      refine op_run rfl rfl (v := .bool q0) (w' := w1) ?_ ⟨_, rfl⟩ (Below.refl _ _)
      simp [execOp, Act.eval, e0, go_sem]
  · show ∀ ph, ph < 2 → _
    iterate 2 (refine fls ?_ ?_)
    · exact fl0
    · intro i hi a w1 hJ hsz hs      -- heavy 0: op 4 slot 68
      obtain rfl : 4 = i := Option.some.inj hi
      obtain ⟨h0, h1, h2, _⟩ := hs
      have h0 : a.tmps.getD 64 undef = .pointer (some ⟨b, 0, .none⟩) := h0
      have h1 : a.tmps.getD 65 undef = .agg #[.int .i64 k.a, .int .i64 k.b, .int .i64 k.c, .int .i64 k.d] := h1
      have h2 : a.tmps.getD 67 undef = .int .i64 nq := h2
      have hcalm : ∀ (wq1 wq2 : World) (kk : Nat) (v0 : Value), kk ≠ 4 → VL [cV (.pointer (some ⟨b, 0, .none⟩)), cV (.agg #[.int .i64 k.a, .int .i64 k.b, .int .i64 k.c, .int .i64 k.d]), cV (.pointer (some ⟨w.heap.size, 3, .none⟩)), cV (.int .i64 nq), nV, cV (.pointer (some ⟨x, 0, .none⟩)), cV (.agg #[.int .i64 k.a, .int .i64 k.b, .int .i64 k.c, .int .i64 k.d]), cV (.pointer (some ⟨w.heap.size, 3, .none⟩)), cV (.int .i64 nq), cV (rdV 3 nq ByteArray.empty (.slice none 0 0)), nV, nV, nV] kk wq1 v0 → VL [cV (.pointer (some ⟨b, 0, .none⟩)), cV (.agg #[.int .i64 k.a, .int .i64 k.b, .int .i64 k.c, .int .i64 k.d]), cV (.pointer (some ⟨w.heap.size, 3, .none⟩)), cV (.int .i64 nq), iV, cV (.pointer (some ⟨x, 0, .none⟩)), cV (.agg #[.int .i64 k.a, .int .i64 k.b, .int .i64 k.c, .int .i64 k.d]), cV (.pointer (some ⟨w.heap.size, 3, .none⟩)), cV (.int .i64 nq), cV (rdV 3 nq ByteArray.empty (.slice none 0 0)), nV, nV, nV] kk wq2 v0 := Calm3.all (n := 0) ⟨.inr fun _ _ _ h => h, .inr fun _ _ _ h => h, .inr fun _ _ _ h => h, .inr fun _ _ _ h => h, .inl rfl, .inr fun _ _ _ h => h, .inr fun _ _ _ h => h, .inr fun _ _ _ h => h, .inr fun _ _ _ h => h, .inr fun _ _ _ h => h, .inr fun _ _ _ h => h.elim, .inr fun _ _ _ h => h.elim, .inr fun _ _ _ h => h.elim, trivial⟩
      refine hv_call rfl rfl (f := 49) (args := #[.pointer (some ⟨b, 0, .none⟩), .agg #[.int .i64 k.a, .int .i64 k.b, .int .i64 k.c, .int .i64 k.d], .int .i64 nq]) (by simp [execOp, Act.eval, resolve, h0, h1, h2, go_sem]) ?_
      have hJ0 : Below wr.heap.size wr w1 := hJ
      have hop := trim_ri (Hr.out.later hJ0) hl hn hq nq
      rw [hk] at hop
      unfold kv at hop
      refine hop.mono ?_
      rintro e w' ⟨⟨c, rfl⟩, hac⟩
      exact ⟨_, rfl, ⟨c, rfl⟩, jP_one hJ0 hac, hcalm _ _⟩
    · intro i hi a w1 hJ hsz hs      -- heavy 1: op 10 slot 74
      obtain rfl : 10 = i := Option.some.inj hi
      obtain ⟨h0, h1, h2, _⟩ := hs
      have h0 : a.tmps.getD 69 undef = .pointer (some ⟨x, 0, .none⟩) := h0
      have h1 : a.tmps.getD 70 undef = .agg #[.int .i64 k.a, .int .i64 k.b, .int .i64 k.c, .int .i64 k.d] := h1
      have h2 : a.tmps.getD 73 undef = rdV 3 nq ByteArray.empty (.slice none 0 0) := h2
      have hcalm : ∀ (wq1 wq2 : World) (kk : Nat) (v0 : Value), kk ≠ 10 → VL [cV (.pointer (some ⟨b, 0, .none⟩)), cV (.agg #[.int .i64 k.a, .int .i64 k.b, .int .i64 k.c, .int .i64 k.d]), cV (.pointer (some ⟨w.heap.size, 3, .none⟩)), cV (.int .i64 nq), iV, cV (.pointer (some ⟨x, 0, .none⟩)), cV (.agg #[.int .i64 k.a, .int .i64 k.b, .int .i64 k.c, .int .i64 k.d]), cV (.pointer (some ⟨w.heap.size, 3, .none⟩)), cV (.int .i64 nq), cV (rdV 3 nq ByteArray.empty (.slice none 0 0)), nV, nV, nV] kk wq1 v0 → VL [cV (.pointer (some ⟨b, 0, .none⟩)), cV (.agg #[.int .i64 k.a, .int .i64 k.b, .int .i64 k.c, .int .i64 k.d]), cV (.pointer (some ⟨w.heap.size, 3, .none⟩)), cV (.int .i64 nq), iV, cV (.pointer (some ⟨x, 0, .none⟩)), cV (.agg #[.int .i64 k.a, .int .i64 k.b, .int .i64 k.c, .int .i64 k.d]), cV (.pointer (some ⟨w.heap.size, 3, .none⟩)), cV (.int .i64 nq), cV (rdV 3 nq ByteArray.empty (.slice none 0 0)), iV, bV1, bV1] kk wq2 v0 := Calm3.all (n := 0) ⟨.inr fun _ _ _ h => h, .inr fun _ _ _ h => h, .inr fun _ _ _ h => h, .inr fun _ _ _ h => h, .inr fun _ _ _ h => h, .inr fun _ _ _ h => h, .inr fun _ _ _ h => h, .inr fun _ _ _ h => h, .inr fun _ _ _ h => h, .inr fun _ _ _ h => h, .inl rfl, .inr fun _ _ _ h => h.elim, .inr fun _ _ _ h => h.elim, trivial⟩
      refine hv_call rfl rfl (f := 48) (args := #[.pointer (some ⟨x, 0, .none⟩), .agg #[.int .i64 k.a, .int .i64 k.b, .int .i64 k.c, .int .i64 k.d], rdV 3 nq ByteArray.empty (.slice none 0 0)]) (by simp [execOp, Act.eval, resolve, h0, h1, h2, go_sem]) ?_
      have hRF := HXr.out.held (jP_keep 1 (by decide) hJ x HXr.out.lt (.inr hxo))
      have hop := rdo_no w1 x 0 hRF k (by rw [← hk]; exact keyW_right hq) 3 nq ByteArray.empty none 0 0 rfl
      unfold kv at hop
      refine hop.mono ?_
      rintro e w' ⟨rfl, hbb⟩
      exact ⟨_, rfl, ⟨_, rfl⟩, jP_two hJ hxo HXr.out.lt (Bt.of_below hbb x), hcalm _ _⟩
  intro f w1 hJ hv
  try simp only [Exit.then]
  simp only [putAll, List.foldl_cons, List.foldl_nil, Option.getD_some, Act.put, List.setIfInBounds_toArray, List.set_cons_succ, List.set_cons_zero]
  obtain ⟨qv, e6⟩ : ∃ c, f 6 = .bool c := hv 12 _ 6 rfl rfl
  clear hv
  have HST : Hid (∃ g' S', NSto w0 w1 b g' S' ∧ RI S' room (n + 1)) := Lib.hid hJ
  clear hJ
  rw [e6]
  go_wp2_with fail
  go_ret
  exact ⟨⟨_, rfl⟩, HST.out⟩
-- END J10

set_option maxRecDepth 20000 in
theorem deed_5 (w0 w : World) (b x : Nat) (g : Gh) (S : St) (room : Int) (n : Nat) (h : NSto w0 w b g S) (hl : RI S room n) (hn : n ≤ 900) (hx : RefAt w x 0) (hxo : g.r x = .own) (A : ActP) (hraw : A.raw = false) (hwh : A.what = 5) (l : List UInt8) (hr : Row w0 A.pa A.pc l) (hlen : l.length = A.pl) (hm6 : A.pl ≤ 60) (hnm : A.nm.size ≤ 30) (hof : -9223372036854775808 ≤ A.off ∧ A.off ≤ 9223372036854775807) :
    Calls Try.prog 20 #[.pointer (some ⟨b, 0, .none⟩), .pointer (some ⟨x, 0, .none⟩), .agg A.cs] w fun e w' => Deeded w0 b room n e w' := by
  obtain ⟨wh, wi, off, nq, raw, ⟨ka, kb, kc, kd⟩, pa, pl, pc, nm, qa, ql, qc⟩ := A
  simp only at hraw hwh hr hlen hm6 hnm hof
  subst hraw hwh
  obtain ⟨cs, hcs⟩ : ∃ cs, (⟨5, wi, off, nq, false, ⟨ka, kb, kc, kd⟩, pa, pl, pc, nm, qa, ql, qc⟩ : ActP).cs = cs := ⟨_, rfl⟩
  have HA := Lib.hid (fun W => key_any ⟨5, wi, off, nq, false, ⟨ka, kb, kc, kd⟩, pa, pl, pc, nm, qa, ql, qc⟩ rfl W)
  obtain ⟨w1, hwe⟩ : ∃ w1, w.alloc (.cells cs 44) = w1 := ⟨_, rfl⟩
  have hb1 : Below w.heap.size w w1 := by rw [← hwe]; exact (Below.refl _ _).alloc (Nat.le_refl _) _
  have hR1 : RecAt w1 w.heap.size cs 44 := by rw [← hwe]; exact RecAt.new _ _ _
  have hj1 : g.r w.heap.size = .junk := h.sto.dom _ (Nat.le_refl _)
  rw [hcs] at HA
  subst hcs
  unfold ActP.cs at HA hR1 hwe ⊢
  simp only at HA hR1 hwe ⊢
  have r0 := hR1.cell (i := 0) rfl
  have r1 := hR1.cell (i := 1) rfl
  have r2 := hR1.cell (i := 2) rfl
  have r3 := hR1.cell (i := 3) rfl
  have r4 := hR1.cell (i := 4) rfl
  have r5 := hR1.cell (i := 5) rfl
  have r6 := hR1.cell (i := 6) rfl
  have r7 := hR1.cell (i := 7) rfl
  have r8 := hR1.cell (i := 8) rfl
  have r9 := hR1.cell (i := 9) rfl
  have r10 := hR1.cell (i := 10) rfl
  have r11 := hR1.cell (i := 11) rfl
  have HR1 := Lib.hid hR1
  have H1 := Lib.hid (h.later hb1)
  have HX1 := Lib.hid (hx.later hb1)
  have HB1 := Lib.hid hb1
  clear h hx hb1 hR1
  go_enter Try.func20, Try.ntmps20
  go_upto_region 1 with fail
  clear hwe
  go_wp2_with fail
  refine (HA.out w1).mono ?_
  rintro e w2 ⟨q, hq, rfl, hb2⟩
  have HR2 := Lib.hid (HR1.out.later hb2)
  have H2 := Lib.hid (H1.out.later hb2)
  have HX2 := Lib.hid (HX1.out.later hb2)
  clear r0 r1 r2 r3 r4 r5 r6 r7 r8 r9 r10 r11 HA HR1 H1 HX1
  obtain ⟨k, hk⟩ : ∃ k, keyW q = k := ⟨_, rfl⟩
  obtain ⟨z, hz⟩ : ∃ z, w2.heap.size = z := ⟨_, rfl⟩
  rw [hk]
  obtain ⟨wr, hwe⟩ : ∃ wr, w2.alloc (.cells #[.int .i64 k.a, .int .i64 k.b, .int .i64 k.c, .int .i64 k.d] 27) = wr := ⟨_, rfl⟩
  have hb3 : Below w2.heap.size w2 wr := by rw [← hwe]; exact (Below.refl _ _).alloc (Nat.le_refl _) _
  have hKr : KeyAt wr w2.heap.size k := by rw [← hwe]; exact KeyAt.new w2 k
  rw [hz] at hKr
  have hzj : g.r z = .junk := by rw [← hz]; exact H2.out.sto.dom _ (Nat.le_refl _)
  have hRr := HR2.out.later hb3
  have d0 : wr.cell? ⟨w.heap.size, 0, .none⟩ = some (.int .i64 5) := hRr.cell (i := 0) rfl
  have HRr := Lib.hid hRr
  have HKr := Lib.hid hKr
  have Hr := Lib.hid (H2.out.later hb3)
  have HXr := Lib.hid (HX2.out.later hb3)
  have HROW := Lib.hid (fun w' (g' : Gh) (S' : St) (h' : NSto w0 w' b g' S') => hr.later h'.below)
  clear hb2 hb3 hKr hRr HR2 H2 HX2 hr
  unfold kv
  go_upto_region 2 with fail
  clear hwe hz
  go_upto_region 14 with fail
-- REG J14
  refine wp_region_ptab (L := fun ph => match ph with | 0 => [cV (.pointer (some ⟨b, 0, .none⟩)), cV (.agg #[.int .i64 k.a, .int .i64 k.b, .int .i64 k.c, .int .i64 k.d]), cV (.pointer (some ⟨w.heap.size, 10, .none⟩)), cV (.string nm), cV (.pointer (some ⟨w.heap.size, 9, .none⟩)), cV (.slice pa pl pc), nV, cV (.pointer (some ⟨x, 0, .none⟩)), cV (.agg #[.int .i64 k.a, .int .i64 k.b, .int .i64 k.c, .int .i64 k.d]), cV (.pointer (some ⟨w.heap.size, 10, .none⟩)), cV (.string nm), cV (.pointer (some ⟨w.heap.size, 9, .none⟩)), cV (.slice pa pl pc), cV (rdV 5 0 nm (.slice pa pl pc)), nV, nV, nV] | 1 => [cV (.pointer (some ⟨b, 0, .none⟩)), cV (.agg #[.int .i64 k.a, .int .i64 k.b, .int .i64 k.c, .int .i64 k.d]), cV (.pointer (some ⟨w.heap.size, 10, .none⟩)), cV (.string nm), cV (.pointer (some ⟨w.heap.size, 9, .none⟩)), cV (.slice pa pl pc), iV, cV (.pointer (some ⟨x, 0, .none⟩)), cV (.agg #[.int .i64 k.a, .int .i64 k.b, .int .i64 k.c, .int .i64 k.d]), cV (.pointer (some ⟨w.heap.size, 10, .none⟩)), cV (.string nm), cV (.pointer (some ⟨w.heap.size, 9, .none⟩)), cV (.slice pa pl pc), cV (rdV 5 0 nm (.slice pa pl pc)), nV, nV, nV] | _ => [cV (.pointer (some ⟨b, 0, .none⟩)), cV (.agg #[.int .i64 k.a, .int .i64 k.b, .int .i64 k.c, .int .i64 k.d]), cV (.pointer (some ⟨w.heap.size, 10, .none⟩)), cV (.string nm), cV (.pointer (some ⟨w.heap.size, 9, .none⟩)), cV (.slice pa pl pc), iV, cV (.pointer (some ⟨x, 0, .none⟩)), cV (.agg #[.int .i64 k.a, .int .i64 k.b, .int .i64 k.c, .int .i64 k.d]), cV (.pointer (some ⟨w.heap.size, 10, .none⟩)), cV (.string nm), cV (.pointer (some ⟨w.heap.size, 9, .none⟩)), cV (.slice pa pl pc), cV (rdV 5 0 nm (.slice pa pl pc)), iV, bV1, bV1]) (jP w0 wr b room n g) [6, 14] [(0, 0), (0, 0), (0, 0), (0, 0), (0, 0), (0, 0), (0, 2), (0, 1), (0, 1), (0, 1), (0, 1), (0, 1), (0, 1), (0, 1), (0, 2), (2, 2), (2, 2)] [[(0, none)], [(7, none)], [(5, none)], [(90, some 2)], [(5, none)], [(92, some 4)], [(88, some 0), (89, some 1), (91, some 3), (93, some 5)], [(1, none)], [(7, none)], [(5, none)], [(97, some 9)], [(5, none)], [(99, some 11)], [(98, some 10), (100, some 12)], [(95, some 7), (96, some 8), (101, some 13)], [(94, some 6), (102, some 14)], [(103, some 15)]] 17 2 211 (by kernel_rfl) rfl rfl rfl (by kernel_rfl) (by kernel_rfl) (by decide) (by kernel_rfl) ?_ ?_ ?_ ?_ ?_
  · exact fun ph w1 w2 h hb => jP_st ph h hb
  · exact Below.refl _ _
  · show ∀ i, i < 17 → _
    iterate 17 (refine fls ?_ ?_)
    · exact fl0
    · intro hne lo hi ph hran hp1 hp2 a w1 hJ hsz hs      -- 0: slot 88
      obtain ⟨rfl, rfl⟩ : 0 = lo ∧ 0 = hi := Prod.mk.inj (Option.some.inj hran)
      obtain rfl : ph = 0 := by omega
      obtain ⟨h0, _⟩ := hs
      have h0 : a.tmps.getD 0 undef = .pointer (some ⟨b, 0, .none⟩) := h0
      refine op_run rfl rfl (v := .pointer (some ⟨b, 0, .none⟩)) (w' := w1) ?_ rfl (Below.refl _ _)
      simp [execOp, Act.eval, h0, go_sem]
    · intro hne lo hi ph hran hp1 hp2 a w1 hJ hsz hs      -- 1: slot 89
      obtain ⟨rfl, rfl⟩ : 0 = lo ∧ 0 = hi := Prod.mk.inj (Option.some.inj hran)
      obtain rfl : ph = 0 := by omega
      obtain ⟨h0, _⟩ := hs
      have h0 : a.tmps.getD 7 undef = .pointer (some ⟨z, 0, .none⟩) := h0
      obtain ⟨c, c', c'', c'''⟩ := KeyAt.cells (HKr.out.held (jP_keep 0 (by decide) hJ z HKr.out.lt (.inl hzj)))
      refine op_run rfl rfl (v := .agg #[.int .i64 k.a, .int .i64 k.b, .int .i64 k.c, .int .i64 k.d]) (w' := w1) ?_ rfl (Below.refl _ _)
      simp [execOp, Act.eval, h0, c, c', c'', c''', go_sem]
    · intro hne lo hi ph hran hp1 hp2 a w1 hJ hsz hs      -- 2: slot 90
      obtain ⟨rfl, rfl⟩ : 0 = lo ∧ 0 = hi := Prod.mk.inj (Option.some.inj hran)
      obtain rfl : ph = 0 := by omega
      obtain ⟨h0, _⟩ := hs
      have h0 : a.tmps.getD 5 undef = .pointer (some ⟨w.heap.size, 0, .none⟩) := h0
      refine op_run rfl rfl (v := .pointer (some ⟨w.heap.size, 10, .none⟩)) (w' := w1) ?_ rfl (Below.refl _ _)
      simp [execOp, Act.eval, h0, go_sem]
    · intro hne lo hi ph hran hp1 hp2 a w1 hJ hsz hs      -- 3: slot 91
      obtain ⟨rfl, rfl⟩ : 0 = lo ∧ 0 = hi := Prod.mk.inj (Option.some.inj hran)
      obtain rfl : ph = 0 := by omega
      obtain ⟨h0, _⟩ := hs
      have h0 : a.tmps.getD 90 undef = .pointer (some ⟨w.heap.size, 10, .none⟩) := h0
      have c : w1.cell? ⟨w.heap.size, 10, .none⟩ = some (.string nm) := (HRr.out.held (jP_keep 0 (by decide) hJ w.heap.size HRr.out.lt (.inl hj1))).cell (i := 10) rfl
      refine op_run rfl rfl (v := .string nm) (w' := w1) ?_ rfl (Below.refl _ _)
      simp [execOp, Act.eval, h0, c, go_sem]
    · intro hne lo hi ph hran hp1 hp2 a w1 hJ hsz hs      -- 4: slot 92
      obtain ⟨rfl, rfl⟩ : 0 = lo ∧ 0 = hi := Prod.mk.inj (Option.some.inj hran)
      obtain rfl : ph = 0 := by omega
      obtain ⟨h0, _⟩ := hs
      have h0 : a.tmps.getD 5 undef = .pointer (some ⟨w.heap.size, 0, .none⟩) := h0
      refine op_run rfl rfl (v := .pointer (some ⟨w.heap.size, 9, .none⟩)) (w' := w1) ?_ rfl (Below.refl _ _)
      simp [execOp, Act.eval, h0, go_sem]
    · intro hne lo hi ph hran hp1 hp2 a w1 hJ hsz hs      -- 5: slot 93
      obtain ⟨rfl, rfl⟩ : 0 = lo ∧ 0 = hi := Prod.mk.inj (Option.some.inj hran)
      obtain rfl : ph = 0 := by omega
      obtain ⟨h0, _⟩ := hs
      have h0 : a.tmps.getD 92 undef = .pointer (some ⟨w.heap.size, 9, .none⟩) := h0
      have c : w1.cell? ⟨w.heap.size, 9, .none⟩ = some (.slice pa pl pc) := (HRr.out.held (jP_keep 0 (by decide) hJ w.heap.size HRr.out.lt (.inl hj1))).cell (i := 9) rfl
      refine op_run rfl rfl (v := .slice pa pl pc) (w' := w1) ?_ rfl (Below.refl _ _)
      simp [execOp, Act.eval, h0, c, go_sem]
    · intro hne lo hi ph hran hp1 hp2 a w1 hJ hsz hs      -- 6: slot 94
      exact absurd (by decide) hne
    · intro hne lo hi ph hran hp1 hp2 a w1 hJ hsz hs      -- 7: slot 95
      obtain ⟨rfl, rfl⟩ : 0 = lo ∧ 1 = hi := Prod.mk.inj (Option.some.inj hran)
      rcases (by omega : ph = 0 ∨ ph = 1) with rfl | rfl
      · obtain ⟨h0, _⟩ := hs
        have h0 : a.tmps.getD 1 undef = .pointer (some ⟨x, 0, .none⟩) := h0
        refine op_run rfl rfl (v := .pointer (some ⟨x, 0, .none⟩)) (w' := w1) ?_ rfl (Below.refl _ _)
        simp [execOp, Act.eval, h0, go_sem]
      · obtain ⟨h0, _⟩ := hs
        have h0 : a.tmps.getD 1 undef = .pointer (some ⟨x, 0, .none⟩) := h0
        refine op_run rfl rfl (v := .pointer (some ⟨x, 0, .none⟩)) (w' := w1) ?_ rfl (Below.refl _ _)
        simp [execOp, Act.eval, h0, go_sem]
    · intro hne lo hi ph hran hp1 hp2 a w1 hJ hsz hs      -- 8: slot 96
      obtain ⟨rfl, rfl⟩ : 0 = lo ∧ 1 = hi := Prod.mk.inj (Option.some.inj hran)
      rcases (by omega : ph = 0 ∨ ph = 1) with rfl | rfl
      · obtain ⟨h0, _⟩ := hs
        have h0 : a.tmps.getD 7 undef = .pointer (some ⟨z, 0, .none⟩) := h0
        obtain ⟨c, c', c'', c'''⟩ := KeyAt.cells (HKr.out.held (jP_keep 0 (by decide) hJ z HKr.out.lt (.inl hzj)))
        refine op_run rfl rfl (v := .agg #[.int .i64 k.a, .int .i64 k.b, .int .i64 k.c, .int .i64 k.d]) (w' := w1) ?_ rfl (Below.refl _ _)
        simp [execOp, Act.eval, h0, c, c', c'', c''', go_sem]
      · obtain ⟨h0, _⟩ := hs
        have h0 : a.tmps.getD 7 undef = .pointer (some ⟨z, 0, .none⟩) := h0
        obtain ⟨c, c', c'', c'''⟩ := KeyAt.cells (HKr.out.held (jP_keep 1 (by decide) hJ z HKr.out.lt (.inl hzj)))
        refine op_run rfl rfl (v := .agg #[.int .i64 k.a, .int .i64 k.b, .int .i64 k.c, .int .i64 k.d]) (w' := w1) ?_ rfl (Below.refl _ _)
        simp [execOp, Act.eval, h0, c, c', c'', c''', go_sem]
    · intro hne lo hi ph hran hp1 hp2 a w1 hJ hsz hs      -- 9: slot 97
      obtain ⟨rfl, rfl⟩ : 0 = lo ∧ 1 = hi := Prod.mk.inj (Option.some.inj hran)
      rcases (by omega : ph = 0 ∨ ph = 1) with rfl | rfl
      · obtain ⟨h0, _⟩ := hs
        have h0 : a.tmps.getD 5 undef = .pointer (some ⟨w.heap.size, 0, .none⟩) := h0
        refine op_run rfl rfl (v := .pointer (some ⟨w.heap.size, 10, .none⟩)) (w' := w1) ?_ rfl (Below.refl _ _)
        simp [execOp, Act.eval, h0, go_sem]
      · obtain ⟨h0, _⟩ := hs
        have h0 : a.tmps.getD 5 undef = .pointer (some ⟨w.heap.size, 0, .none⟩) := h0
        refine op_run rfl rfl (v := .pointer (some ⟨w.heap.size, 10, .none⟩)) (w' := w1) ?_ rfl (Below.refl _ _)
        simp [execOp, Act.eval, h0, go_sem]
    · intro hne lo hi ph hran hp1 hp2 a w1 hJ hsz hs      -- 10: slot 98
      obtain ⟨rfl, rfl⟩ : 0 = lo ∧ 1 = hi := Prod.mk.inj (Option.some.inj hran)
      rcases (by omega : ph = 0 ∨ ph = 1) with rfl | rfl
      · obtain ⟨h0, _⟩ := hs
        have h0 : a.tmps.getD 97 undef = .pointer (some ⟨w.heap.size, 10, .none⟩) := h0
        have c : w1.cell? ⟨w.heap.size, 10, .none⟩ = some (.string nm) := (HRr.out.held (jP_keep 0 (by decide) hJ w.heap.size HRr.out.lt (.inl hj1))).cell (i := 10) rfl
        refine op_run rfl rfl (v := .string nm) (w' := w1) ?_ rfl (Below.refl _ _)
        simp [execOp, Act.eval, h0, c, go_sem]
      · obtain ⟨h0, _⟩ := hs
        have h0 : a.tmps.getD 97 undef = .pointer (some ⟨w.heap.size, 10, .none⟩) := h0
        have c : w1.cell? ⟨w.heap.size, 10, .none⟩ = some (.string nm) := (HRr.out.held (jP_keep 1 (by decide) hJ w.heap.size HRr.out.lt (.inl hj1))).cell (i := 10) rfl
        refine op_run rfl rfl (v := .string nm) (w' := w1) ?_ rfl (Below.refl _ _)
        simp [execOp, Act.eval, h0, c, go_sem]
    · intro hne lo hi ph hran hp1 hp2 a w1 hJ hsz hs      -- 11: slot 99
      obtain ⟨rfl, rfl⟩ : 0 = lo ∧ 1 = hi := Prod.mk.inj (Option.some.inj hran)
      rcases (by omega : ph = 0 ∨ ph = 1) with rfl | rfl
      · obtain ⟨h0, _⟩ := hs
        have h0 : a.tmps.getD 5 undef = .pointer (some ⟨w.heap.size, 0, .none⟩) := h0
        refine op_run rfl rfl (v := .pointer (some ⟨w.heap.size, 9, .none⟩)) (w' := w1) ?_ rfl (Below.refl _ _)
        simp [execOp, Act.eval, h0, go_sem]
      · obtain ⟨h0, _⟩ := hs
        have h0 : a.tmps.getD 5 undef = .pointer (some ⟨w.heap.size, 0, .none⟩) := h0
        refine op_run rfl rfl (v := .pointer (some ⟨w.heap.size, 9, .none⟩)) (w' := w1) ?_ rfl (Below.refl _ _)
        simp [execOp, Act.eval, h0, go_sem]
    · intro hne lo hi ph hran hp1 hp2 a w1 hJ hsz hs      -- 12: slot 100
      obtain ⟨rfl, rfl⟩ : 0 = lo ∧ 1 = hi := Prod.mk.inj (Option.some.inj hran)
      rcases (by omega : ph = 0 ∨ ph = 1) with rfl | rfl
      · obtain ⟨h0, _⟩ := hs
        have h0 : a.tmps.getD 99 undef = .pointer (some ⟨w.heap.size, 9, .none⟩) := h0
        have c : w1.cell? ⟨w.heap.size, 9, .none⟩ = some (.slice pa pl pc) := (HRr.out.held (jP_keep 0 (by decide) hJ w.heap.size HRr.out.lt (.inl hj1))).cell (i := 9) rfl
        refine op_run rfl rfl (v := .slice pa pl pc) (w' := w1) ?_ rfl (Below.refl _ _)
        simp [execOp, Act.eval, h0, c, go_sem]
      · obtain ⟨h0, _⟩ := hs
        have h0 : a.tmps.getD 99 undef = .pointer (some ⟨w.heap.size, 9, .none⟩) := h0
        have c : w1.cell? ⟨w.heap.size, 9, .none⟩ = some (.slice pa pl pc) := (HRr.out.held (jP_keep 1 (by decide) hJ w.heap.size HRr.out.lt (.inl hj1))).cell (i := 9) rfl
        refine op_run rfl rfl (v := .slice pa pl pc) (w' := w1) ?_ rfl (Below.refl _ _)
        simp [execOp, Act.eval, h0, c, go_sem]
    · intro hne lo hi ph hran hp1 hp2 a w1 hJ hsz hs      -- 13: slot 101
      obtain ⟨rfl, rfl⟩ : 0 = lo ∧ 1 = hi := Prod.mk.inj (Option.some.inj hran)
      rcases (by omega : ph = 0 ∨ ph = 1) with rfl | rfl
      · obtain ⟨h0, h1, _⟩ := hs
        have h0 : a.tmps.getD 98 undef = .string nm := h0
        have g0 : a.tmps[98]?.getD undef = .string nm := (Array.getD_eq_getD_getElem? ..).symm.trans h0
        have h1 : a.tmps.getD 100 undef = .slice pa pl pc := h1
        have g1 : a.tmps[100]?.getD undef = .slice pa pl pc := (Array.getD_eq_getD_getElem? ..).symm.trans h1
        have e0 : a.tmps[98]?.getD undef = .string nm := by rw [← h0]; exact (Array.getD_eq_getD_getElem?).symm
        have e1 : a.tmps[100]?.getD undef = .slice pa pl pc := by rw [← h1]; exact (Array.getD_eq_getD_getElem?).symm
        refine op_run rfl rfl (v := rdV 5 0 nm (.slice pa pl pc)) (w' := w1) ?_ rfl (Below.refl _ _)
        simp [execOp, Act.eval, rdV, e0, e1, go_sem]
      · obtain ⟨h0, h1, _⟩ := hs
        have h0 : a.tmps.getD 98 undef = .string nm := h0
        have g0 : a.tmps[98]?.getD undef = .string nm := (Array.getD_eq_getD_getElem? ..).symm.trans h0
        have h1 : a.tmps.getD 100 undef = .slice pa pl pc := h1
        have g1 : a.tmps[100]?.getD undef = .slice pa pl pc := (Array.getD_eq_getD_getElem? ..).symm.trans h1
        have e0 : a.tmps[98]?.getD undef = .string nm := by rw [← h0]; exact (Array.getD_eq_getD_getElem?).symm
        have e1 : a.tmps[100]?.getD undef = .slice pa pl pc := by rw [← h1]; exact (Array.getD_eq_getD_getElem?).symm
        refine op_run rfl rfl (v := rdV 5 0 nm (.slice pa pl pc)) (w' := w1) ?_ rfl (Below.refl _ _)
        simp [execOp, Act.eval, rdV, e0, e1, go_sem]
    · intro hne lo hi ph hran hp1 hp2 a w1 hJ hsz hs      -- 14: slot 102
      exact absurd (by decide) hne
    · intro hne lo hi ph hran hp1 hp2 a w1 hJ hsz hs      -- 15: slot 103
      obtain ⟨rfl, rfl⟩ : 2 = lo ∧ 2 = hi := Prod.mk.inj (Option.some.inj hran)
      obtain rfl : ph = 2 := by omega
      obtain ⟨h0, h1, _⟩ := hs
      obtain ⟨v0, e0, q0, m0⟩ : ∃ v, a.tmps.getD 94 undef = v ∧ iV.p w1 v := ⟨_, rfl, h0⟩
      obtain ⟨v1, e1, q1, m1⟩ : ∃ v, a.tmps.getD 102 undef = v ∧ iV.p w1 v := ⟨_, rfl, h1⟩
      subst m0 m1
      have e0 : a.tmps[94]?.getD undef = .int .i64 q0 := by rw [← e0]; exact (Array.getD_eq_getD_getElem?).symm
      have e1 : a.tmps[102]?.getD undef = .int .i64 q1 := by rw [← e1]; exact (Array.getD_eq_getD_getElem?).symm
      refine op_run rfl rfl (v := .bool (q0 == q1)) (w' := w1) ?_ ⟨_, rfl⟩ (Below.refl _ _)
      simp [execOp, Act.eval, e0, e1, go_sem]
    · intro hne lo hi ph hran hp1 hp2 a w1 hJ hsz hs      -- 16: slot 6
      obtain ⟨rfl, rfl⟩ : 2 = lo ∧ 2 = hi := Prod.mk.inj (Option.some.inj hran)
      obtain rfl : ph = 2 := by omega
      obtain ⟨h0, _⟩ := hs
      obtain ⟨v0, e0, q0, m0⟩ : ∃ v, a.tmps.getD 103 undef = v ∧ bV1.p w1 v := ⟨_, rfl, h0⟩
      subst m0
      have e0 : a.tmps[103]?.getD undef = .bool q0 := by rw [← e0]; exact (Array.getD_eq_getD_getElem?).symm
      refine op_run rfl rfl (v := .bool q0) (w' := w1) ?_ ⟨_, rfl⟩ (Below.refl _ _)
      simp [execOp, Act.eval, e0, go_sem]
  · show ∀ ph, ph < 2 → _
    iterate 2 (refine fls ?_ ?_)
    · exact fl0
    · intro i hi a w1 hJ hsz hs      -- heavy 0: op 6 slot 94
      obtain rfl : 6 = i := Option.some.inj hi
      obtain ⟨h0, h1, h2, h3, _⟩ := hs
      have h0 : a.tmps.getD 88 undef = .pointer (some ⟨b, 0, .none⟩) := h0
      have h1 : a.tmps.getD 89 undef = .agg #[.int .i64 k.a, .int .i64 k.b, .int .i64 k.c, .int .i64 k.d] := h1
      have h2 : a.tmps.getD 91 undef = .string nm := h2
      have h3 : a.tmps.getD 93 undef = .slice pa pl pc := h3
      have hcalm : ∀ (wq1 wq2 : World) (kk : Nat) (v0 : Value), kk ≠ 6 → VL [cV (.pointer (some ⟨b, 0, .none⟩)), cV (.agg #[.int .i64 k.a, .int .i64 k.b, .int .i64 k.c, .int .i64 k.d]), cV (.pointer (some ⟨w.heap.size, 10, .none⟩)), cV (.string nm), cV (.pointer (some ⟨w.heap.size, 9, .none⟩)), cV (.slice pa pl pc), nV, cV (.pointer (some ⟨x, 0, .none⟩)), cV (.agg #[.int .i64 k.a, .int .i64 k.b, .int .i64 k.c, .int .i64 k.d]), cV (.pointer (some ⟨w.heap.size, 10, .none⟩)), cV (.string nm), cV (.pointer (some ⟨w.heap.size, 9, .none⟩)), cV (.slice pa pl pc), cV (rdV 5 0 nm (.slice pa pl pc)), nV, nV, nV] kk wq1 v0 → VL [cV (.pointer (some ⟨b, 0, .none⟩)), cV (.agg #[.int .i64 k.a, .int .i64 k.b, .int .i64 k.c, .int .i64 k.d]), cV (.pointer (some ⟨w.heap.size, 10, .none⟩)), cV (.string nm), cV (.pointer (some ⟨w.heap.size, 9, .none⟩)), cV (.slice pa pl pc), iV, cV (.pointer (some ⟨x, 0, .none⟩)), cV (.agg #[.int .i64 k.a, .int .i64 k.b, .int .i64 k.c, .int .i64 k.d]), cV (.pointer (some ⟨w.heap.size, 10, .none⟩)), cV (.string nm), cV (.pointer (some ⟨w.heap.size, 9, .none⟩)), cV (.slice pa pl pc), cV (rdV 5 0 nm (.slice pa pl pc)), nV, nV, nV] kk wq2 v0 := Calm3.all (n := 0) ⟨.inr fun _ _ _ h => h, .inr fun _ _ _ h => h, .inr fun _ _ _ h => h, .inr fun _ _ _ h => h, .inr fun _ _ _ h => h, .inr fun _ _ _ h => h, .inl rfl, .inr fun _ _ _ h => h, .inr fun _ _ _ h => h, .inr fun _ _ _ h => h, .inr fun _ _ _ h => h, .inr fun _ _ _ h => h, .inr fun _ _ _ h => h, .inr fun _ _ _ h => h, .inr fun _ _ _ h => h.elim, .inr fun _ _ _ h => h.elim, .inr fun _ _ _ h => h.elim, trivial⟩
      refine hv_call rfl rfl (f := 50) (args := #[.pointer (some ⟨b, 0, .none⟩), .agg #[.int .i64 k.a, .int .i64 k.b, .int .i64 k.c, .int .i64 k.d], .string nm, .slice pa pl pc]) (by simp [execOp, Act.eval, resolve, h0, h1, h2, h3, go_sem]) ?_
      have hJ0 : Below wr.heap.size wr w1 := hJ
      have hop := set_ri (Hr.out.later hJ0) hl hn hq nm hnm pa pl pc l (HROW.out w1 g S (Hr.out.later hJ0)) hlen hm6
      rw [hk] at hop
      unfold kv at hop
      refine hop.mono ?_
      rintro e w' ⟨⟨c, rfl⟩, hac⟩
      exact ⟨_, rfl, ⟨c, rfl⟩, jP_one hJ0 hac, hcalm _ _⟩
    · intro i hi a w1 hJ hsz hs      -- heavy 1: op 14 slot 102
      obtain rfl : 14 = i := Option.some.inj hi
      obtain ⟨h0, h1, h2, _⟩ := hs
      have h0 : a.tmps.getD 95 undef = .pointer (some ⟨x, 0, .none⟩) := h0
      have h1 : a.tmps.getD 96 undef = .agg #[.int .i64 k.a, .int .i64 k.b, .int .i64 k.c, .int .i64 k.d] := h1
      have h2 : a.tmps.getD 101 undef = rdV 5 0 nm (.slice pa pl pc) := h2
      have hcalm : ∀ (wq1 wq2 : World) (kk : Nat) (v0 : Value), kk ≠ 14 → VL [cV (.pointer (some ⟨b, 0, .none⟩)), cV (.agg #[.int .i64 k.a, .int .i64 k.b, .int .i64 k.c, .int .i64 k.d]), cV (.pointer (some ⟨w.heap.size, 10, .none⟩)), cV (.string nm), cV (.pointer (some ⟨w.heap.size, 9, .none⟩)), cV (.slice pa pl pc), iV, cV (.pointer (some ⟨x, 0, .none⟩)), cV (.agg #[.int .i64 k.a, .int .i64 k.b, .int .i64 k.c, .int .i64 k.d]), cV (.pointer (some ⟨w.heap.size, 10, .none⟩)), cV (.string nm), cV (.pointer (some ⟨w.heap.size, 9, .none⟩)), cV (.slice pa pl pc), cV (rdV 5 0 nm (.slice pa pl pc)), nV, nV, nV] kk wq1 v0 → VL [cV (.pointer (some ⟨b, 0, .none⟩)), cV (.agg #[.int .i64 k.a, .int .i64 k.b, .int .i64 k.c, .int .i64 k.d]), cV (.pointer (some ⟨w.heap.size, 10, .none⟩)), cV (.string nm), cV (.pointer (some ⟨w.heap.size, 9, .none⟩)), cV (.slice pa pl pc), iV, cV (.pointer (some ⟨x, 0, .none⟩)), cV (.agg #[.int .i64 k.a, .int .i64 k.b, .int .i64 k.c, .int .i64 k.d]), cV (.pointer (some ⟨w.heap.size, 10, .none⟩)), cV (.string nm), cV (.pointer (some ⟨w.heap.size, 9, .none⟩)), cV (.slice pa pl pc), cV (rdV 5 0 nm (.slice pa pl pc)), iV, bV1, bV1] kk wq2 v0 := Calm3.all (n := 0) ⟨.inr fun _ _ _ h => h, .inr fun _ _ _ h => h, .inr fun _ _ _ h => h, .inr fun _ _ _ h => h, .inr fun _ _ _ h => h, .inr fun _ _ _ h => h, .inr fun _ _ _ h => h, .inr fun _ _ _ h => h, .inr fun _ _ _ h => h, .inr fun _ _ _ h => h, .inr fun _ _ _ h => h, .inr fun _ _ _ h => h, .inr fun _ _ _ h => h, .inr fun _ _ _ h => h, .inl rfl, .inr fun _ _ _ h => h.elim, .inr fun _ _ _ h => h.elim, trivial⟩
      refine hv_call rfl rfl (f := 48) (args := #[.pointer (some ⟨x, 0, .none⟩), .agg #[.int .i64 k.a, .int .i64 k.b, .int .i64 k.c, .int .i64 k.d], rdV 5 0 nm (.slice pa pl pc)]) (by simp [execOp, Act.eval, resolve, h0, h1, h2, go_sem]) ?_
      have hRF := HXr.out.held (jP_keep 1 (by decide) hJ x HXr.out.lt (.inr hxo))
      have hop := rdo_no w1 x 0 hRF k (by rw [← hk]; exact keyW_right hq) 5 0 nm pa pl pc rfl
      unfold kv at hop
      refine hop.mono ?_
      rintro e w' ⟨rfl, hbb⟩
      exact ⟨_, rfl, ⟨_, rfl⟩, jP_two hJ hxo HXr.out.lt (Bt.of_below hbb x), hcalm _ _⟩
  intro f w1 hJ hv
  try simp only [Exit.then]
  simp only [putAll, List.foldl_cons, List.foldl_nil, Option.getD_some, Act.put, List.setIfInBounds_toArray, List.set_cons_succ, List.set_cons_zero]
  obtain ⟨qv, e6⟩ : ∃ c, f 6 = .bool c := hv 16 _ 6 rfl rfl
  clear hv
  have HST : Hid (∃ g' S', NSto w0 w1 b g' S' ∧ RI S' room (n + 1)) := Lib.hid hJ
  clear hJ
  rw [e6]
  go_wp2_with fail
  go_ret
  exact ⟨⟨_, rfl⟩, HST.out⟩
-- END J14

set_option maxRecDepth 20000 in
theorem deed_6 (w0 w : World) (b x : Nat) (g : Gh) (S : St) (room : Int) (n : Nat) (h : NSto w0 w b g S) (hl : RI S room n) (hn : n ≤ 900) (hx : RefAt w x 0) (hxo : g.r x = .own) (A : ActP) (hraw : A.raw = false) (hwh : A.what = 6) (l : List UInt8) (hr : Row w0 A.pa A.pc l) (hlen : l.length = A.pl) (hm6 : A.pl ≤ 60) (hnm : A.nm.size ≤ 30) (hof : -9223372036854775808 ≤ A.off ∧ A.off ≤ 9223372036854775807) :
    Calls Try.prog 20 #[.pointer (some ⟨b, 0, .none⟩), .pointer (some ⟨x, 0, .none⟩), .agg A.cs] w fun e w' => Deeded w0 b room n e w' := by
  obtain ⟨wh, wi, off, nq, raw, ⟨ka, kb, kc, kd⟩, pa, pl, pc, nm, qa, ql, qc⟩ := A
  simp only at hraw hwh hr hlen hm6 hnm hof
  subst hraw hwh
  obtain ⟨cs, hcs⟩ : ∃ cs, (⟨6, wi, off, nq, false, ⟨ka, kb, kc, kd⟩, pa, pl, pc, nm, qa, ql, qc⟩ : ActP).cs = cs := ⟨_, rfl⟩
  have HA := Lib.hid (fun W => key_any ⟨6, wi, off, nq, false, ⟨ka, kb, kc, kd⟩, pa, pl, pc, nm, qa, ql, qc⟩ rfl W)
  obtain ⟨w1, hwe⟩ : ∃ w1, w.alloc (.cells cs 44) = w1 := ⟨_, rfl⟩
  have hb1 : Below w.heap.size w w1 := by rw [← hwe]; exact (Below.refl _ _).alloc (Nat.le_refl _) _
  have hR1 : RecAt w1 w.heap.size cs 44 := by rw [← hwe]; exact RecAt.new _ _ _
  have hj1 : g.r w.heap.size = .junk := h.sto.dom _ (Nat.le_refl _)
  rw [hcs] at HA
  subst hcs
  unfold ActP.cs at HA hR1 hwe ⊢
  simp only at HA hR1 hwe ⊢
  have r0 := hR1.cell (i := 0) rfl
  have r1 := hR1.cell (i := 1) rfl
  have r2 := hR1.cell (i := 2) rfl
  have r3 := hR1.cell (i := 3) rfl
  have r4 := hR1.cell (i := 4) rfl
  have r5 := hR1.cell (i := 5) rfl
  have r6 := hR1.cell (i := 6) rfl
  have r7 := hR1.cell (i := 7) rfl
  have r8 := hR1.cell (i := 8) rfl
  have r9 := hR1.cell (i := 9) rfl
  have r10 := hR1.cell (i := 10) rfl
  have r11 := hR1.cell (i := 11) rfl
  have HR1 := Lib.hid hR1
  have H1 := Lib.hid (h.later hb1)
  have HX1 := Lib.hid (hx.later hb1)
  have HB1 := Lib.hid hb1
  clear h hx hb1 hR1
  go_enter Try.func20, Try.ntmps20
  go_upto_region 1 with fail
  clear hwe
  go_wp2_with fail
  refine (HA.out w1).mono ?_
  rintro e w2 ⟨q, hq, rfl, hb2⟩
  have HR2 := Lib.hid (HR1.out.later hb2)
  have H2 := Lib.hid (H1.out.later hb2)
  have HX2 := Lib.hid (HX1.out.later hb2)
  clear r0 r1 r2 r3 r4 r5 r6 r7 r8 r9 r10 r11 HA HR1 H1 HX1
  obtain ⟨k, hk⟩ : ∃ k, keyW q = k := ⟨_, rfl⟩
  obtain ⟨z, hz⟩ : ∃ z, w2.heap.size = z := ⟨_, rfl⟩
  rw [hk]
  obtain ⟨wr, hwe⟩ : ∃ wr, w2.alloc (.cells #[.int .i64 k.a, .int .i64 k.b, .int .i64 k.c, .int .i64 k.d] 27) = wr := ⟨_, rfl⟩
  have hb3 : Below w2.heap.size w2 wr := by rw [← hwe]; exact (Below.refl _ _).alloc (Nat.le_refl _) _
  have hKr : KeyAt wr w2.heap.size k := by rw [← hwe]; exact KeyAt.new w2 k
  rw [hz] at hKr
  have hzj : g.r z = .junk := by rw [← hz]; exact H2.out.sto.dom _ (Nat.le_refl _)
  have hRr := HR2.out.later hb3
  have d0 : wr.cell? ⟨w.heap.size, 0, .none⟩ = some (.int .i64 6) := hRr.cell (i := 0) rfl
  have HRr := Lib.hid hRr
  have HKr := Lib.hid hKr
  have Hr := Lib.hid (H2.out.later hb3)
  have HXr := Lib.hid (HX2.out.later hb3)
  have HROW := Lib.hid (fun w' (g' : Gh) (S' : St) (h' : NSto w0 w' b g' S') => hr.later h'.below)
  clear hb2 hb3 hKr hRr HR2 H2 HX2 hr
  unfold kv
  go_upto_region 2 with fail
  clear hwe hz
  go_upto_region 16 with fail
  have HOP := Lib.hid (barrier_ri Hr.out hl hn)
  go_wp2_with fail
  refine HOP.out.mono ?_
  rintro e w5 ⟨⟨c, rfl⟩, hac⟩
  have HJ : Hid (jP w0 wr b room n g 1 w5) := Lib.hid (jP_one (Below.refl _ _) hac)
  have HRF := Lib.hid (HXr.out.held (jP_keep 1 (by decide) HJ.out x HXr.out.lt (.inr hxo)))
  have HBR := Lib.hid (rbarrier_any w5 x 0 HRF.out)
  clear hac HOP d0
  go_wp2_with fail
  refine HBR.out.mono ?_
  rintro e w6 ⟨c2, rfl, hbt⟩
  have HST := Lib.hid (jP_two HJ.out hxo HXr.out.lt hbt)
  clear hbt HBR
  go_wp2_with fail
  go_ret
  exact ⟨⟨_, rfl⟩, HST.out⟩
end Go.Proofs.Ytgjdabneodkmpaa
