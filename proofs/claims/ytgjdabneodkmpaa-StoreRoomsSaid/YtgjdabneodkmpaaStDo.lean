/- A deed done: 'do'. -/
import Derived.Test.YtgjdabneodkmpaaStY
namespace Go.Proofs.Ytgjdabneodkmpaa
open Go.RowKit
set_option linter.unusedVariables false

/-- All is small: n deeds were done at most. -/
structure St.Sm (S : St) (n : Nat) : Prop where
  wks : S.wks.length ≤ n
  sks : S.sks.length ≤ n
  deeds : 0 ≤ S.deeds ∧ S.deeds ≤ n
  used : -10000000000 ≤ S.used ∧ S.used ≤ 10000000000
  row : ∀ k p, S.wet k = some p → p.deeds.length ≤ n
  named : ∀ k o, S.seen k = some o → o.named ≤ 500000000
def St.did (S : St) (k : K4) (d : Deed) : St := { (S.logged k d).laid k (doneD d (S.seen k)) (usedOf (S.seen k)) with deeds := S.deeds + 1 }
theorem St.logged_seen (S : St) (k : K4) (d : Deed) : (S.logged k d).seen = S.seen ∧ (S.logged k d).sks = S.sks ∧ (S.logged k d).used = S.used ∧ (S.logged k d).deeds = S.deeds ∧ (S.logged k d).room = S.room ∧ (S.logged k d).off = S.off := by
  unfold St.logged St.opened
  cases S.wet k <;> simp
/-- All but what is nobody's. -/
def ours (t : Role) : Prop := t ≠ .junk ∧ t ≠ .own
theorem Sto.setDeeds {w : World} {b : Nat} {g : Gh} {S : St} (h : Sto w b g S) (u : Int) : Sto (w.setCell ⟨b, 5, .none⟩ (.int .i64 u)) b g { S with deeds := u } ∧ Fr w (w.setCell ⟨b, 5, .none⟩ (.int .i64 u)) g.r g.r ours := by
  have hf : Fr w (w.setCell ⟨b, 5, .none⟩ (.int .i64 u)) g.r g.r (fun t => t = .st) := Fr.of_set (by exact h.role)
  refine ⟨⟨h.role, ?_, h.sm.keep fun x hx hlt => hf.block x hlt (by rw [h.sr x hx]; simp), h.sr, h.wm.keep fun x hx hlt => hf.block x hlt (by rw [h.wr x hx]; simp), h.wr,
    fun k' hk' => (h.seen k' hk').fr hf (by rintro t (rfl | rfl | rfl) <;> simp) (by simp), fun k' hk' => (h.wet k' hk').fr hf (by rintro t (rfl | rfl | rfl | rfl | rfl) <;> simp) (by simp), Dom.later (w := w) h.dom hf.size⟩, hf.mono fun t ht => by rw [ht]; simp [ours]⟩
  have := heap_setCell_same w b 5 _ _ (.int .i64 u) h.heap
  simpa using this
theorem St.opened_seen (S : St) (k : K4) : (S.opened k).seen = S.seen := by unfold St.opened; cases S.wet k <;> rfl

/-- The done object, where it lies, and the roles from then on. -/
def dnV (w0 : World) (r : Nat → Role) (k : K4) (o : Option Ob) : SV :=
  ⟨fun w v => ∃ x, v = ptrV x ∧ ∃ r', Fr w0 w r r' (ofOb false k) ∧ Dom w r' ∧ OpAt w r' false k x o,
   fun w w' v ⟨x, h0, r', h1, h2, h3⟩ hb => ⟨x, h0, r', h1.later hb, h2.later hb.size, h3.fr (Fr.of_below hb r' (fun _ => False)) (fun _ _ h => h) (fun h => h)⟩⟩
def jD (w0 : World) (b : Nat) (g : Gh) (S' : St) (kb : Nat) (k : K4) : Nat → World → Prop
  | 0, w => Below w0.heap.size w0 w
  | 1, w => KeyAt w kb k
  | _, w => ∃ g', Sto w b g' S' ∧ Fr w0 w g.r g'.r ours
theorem jD_st {w0 : World} {b : Nat} {g : Gh} {S' : St} {kb : Nat} {k : K4} (ph : Nat) {w w' : World} (h : jD w0 b g S' kb k ph w) (hb : Below w.heap.size w w') : jD w0 b g S' kb k ph w' := by
  match ph, h with
  | 0, h => exact Below.trans h (hb.mono h.size)
  | 1, h => exact KeyAt.later h hb
  | n + 2, h =>
    obtain ⟨g', h1, h2⟩ := h
    exact ⟨g', h1.later hb, h2.later hb⟩

theorem jD_key {w0 w : World} {b : Nat} {g : Gh} {S' : St} {kb : Nat} {k : K4} (hk : KeyAt w0 kb k) (ph : Nat) (hp : ph ≤ 1) (h : jD w0 b g S' kb k ph w) : KeyAt w kb k := by
  match ph, hp, h with
  | 0, _, h => exact hk.later h
  | 1, _, h => exact h
theorem writeL_len (b : List UInt8) (off : Nat) (p : List UInt8) : (writeL b off p).length ≤ max b.length (off + p.length) := by
  unfold writeL
  split
  · omega
  · unfold padL
    simp
    omega
theorem growA_le (f : List UInt8 → List UInt8) (s l : List UInt8) (h1 : s.length ≤ 20) (h2 : l.length ≤ 4096) : growA f s l ≤ 5000 := by
  unfold growA usedA
  split <;> split <;> omega
theorem doneD_bd {d : Deed} {o : Option Ob} (hc : canD d o) {N : Int} (hN : 0 ≤ N) (hb : ∀ o', o = some o' → o'.bytes.length ≤ 16384 ∧ 0 ≤ o'.named ∧ o'.named ≤ N) : ∀ o', doneD d o = some o' → o'.bytes.length ≤ 16384 ∧ 0 ≤ o'.named ∧ o'.named ≤ N + 5000 := by
  intro o' h
  rcases hc with h1 | h1 | ⟨h1, h2, h3, h4⟩ | ⟨h1, h2⟩ | ⟨h1, h2, h3, h4, h5⟩
  · simp [doneD, h1] at h; subst h; simp [Ob.none]; omega
  · simp [doneD, h1] at h
  · cases o with
    | none => cases h2
    | some o =>
      simp [doneD, h1] at h
      subst h
      have := hb o rfl
      have h6 := writeL_len o.bytes d.at_.toNat d.data
      simp only [Ob.wr]
      refine ⟨by omega, by omega, by omega⟩
  · cases o with
    | none => cases h2
    | some o =>
      simp [doneD, h1] at h
      subst h
      have := hb o rfl
      have h5 := o.cut_len d.at_
      have e : (o.cut d.at_).named = o.named := rfl
      exact ⟨by omega, by omega, by omega⟩
  · cases o with
    | none => cases h2
    | some o =>
      simp [doneD, h1] at h
      subst h
      have := hb o rfl
      have h6 := (h5 o rfl).1
      have h7 := growA_le o.attrs d.name d.data h3 h4
      simp only [Ob.set]
      exact ⟨by omega, by omega, by omega⟩
theorem St.WF.logged {S : St} (h : S.WF) {k : K4} (hk : k.ok) (d : Deed) : (S.logged k d).WF := by
  have e := St.logged_seen S k d
  refine ⟨by rw [e.2.2.2.2.1]; exact h.room, ⟨by rw [e.2.1]; exact h.nd.1, ?_⟩, by rw [e.2.1, e.1]; exact h.sks, ?_, by rw [e.1]; exact h.seen⟩
  · unfold St.logged St.opened
    cases hS : S.wet k with
    | some p => exact h.nd.2
    | none =>
      simp only
      refine List.nodup_append.2 ⟨h.nd.2, by simp, fun a ha b hb => ?_⟩
      simp at hb
      subst hb
      rintro rfl
      have := (h.wks a).1 ha
      rw [hS] at this
      simp at this
  · intro k'
    unfold St.logged St.opened
    cases hS : S.wet k with
    | some p =>
      simp only [hS]
      by_cases e2 : k' = k
      · subst e2; rw [upd_same, h.wks]; simp [hS]
      · rw [upd_other _ _ e2]; exact h.wks k'
    | none =>
      simp only [upd_same]
      by_cases e2 : k' = k
      · subst e2; rw [upd_same]; simp [hk]
      · rw [upd_other _ _ e2, upd_other _ _ e2, List.mem_append]
        simp [e2, h.wks k']

set_option maxRecDepth 20000 in
theorem do_any (w : World) (b : Nat) (g : Gh) (S : St) (h : Sto w b g S) (k : K4) (hk : k.ok) (d : Deed) (dv : Value) (hs : Shr w g.r dv d.data) (hS : S.WF) (n : Nat) (hsm : S.Sm n) (hn : n ≤ 100000) (hc : canD d (S.seen k)) :
    Calls Try.prog 34 #[.pointer (some ⟨b, 0, .none⟩), kv k, deedV d dv] w fun e w' =>
      e = .returned (.int .i64 0) ∧ ∃ g', Sto w' b g' (S.did k d) ∧ Fr w w' g.r g'.r ours := by
  obtain ⟨w1, hwe⟩ : ∃ w1, (w.alloc (.cells #[.int .i64 k.a, .int .i64 k.b, .int .i64 k.c, .int .i64 k.d] 27)).alloc (.cells #[.int .i64 d.kind, .int .i64 d.at_, .string ⟨d.name.toArray⟩, dv] 69) = w1 := ⟨_, rfl⟩
  have hb1 : Below w.heap.size w w1 := by rw [← hwe]; exact ((Below.refl _ _).alloc (Nat.le_refl _) _).alloc (by simp) _
  have hK : KeyAt w1 w.heap.size k := by rw [← hwe]; exact (KeyAt.new w k).later ((Below.refl _ _).alloc (Nat.le_refl _) _)
  have hD : DeedAt w1 (w.heap.size + 1) d dv := by
    have h2 := (MapKept.heap_alloc (w.alloc (.cells #[.int .i64 k.a, .int .i64 k.b, .int .i64 k.c, .int .i64 k.d] 27)) (.cells #[.int .i64 d.kind, .int .i64 d.at_, .string ⟨d.name.toArray⟩, dv] 69)).1
    have e : (w.alloc (.cells #[.int .i64 k.a, .int .i64 k.b, .int .i64 k.c, .int .i64 k.d] 27)).heap.size = w.heap.size + 1 := by simp
    rw [e] at h2
    rw [← hwe]; exact h2
  have hsz1 : w1.heap.size = w.heap.size + 2 := by rw [← hwe]; simp
  have h1 := h.later hb1
  have hs1 := hs.later hb1
  have hj0 : g.r w.heap.size = .junk := h.dom _ (Nat.le_refl _)
  have hj1 : g.r (w.heap.size + 1) = .junk := h.dom _ (by omega)
  have HC := Lib.hid hc
  have HS := Lib.hid hS
  have HSM := Lib.hid hsm
  have HB := Lib.hid hb1
  clear h hs hb1 hc hS hsm
  have HBL := Lib.hid (blown_any w1 b g S h1)
  obtain ⟨k0, k1, k2, k3⟩ := hK.cells
  obtain ⟨d0, d1, d2, d3⟩ := hD.cells
  unfold kv deedV
  go_enter Try.func34, Try.ntmps34
  go_upto_region 1 with fail
  clear hwe
  go_wp2_with fail
  refine HBL.out.mono ?_
  rintro e w2 ⟨rfl, rfl⟩
  clear HBL
  have HLG := Lib.hid (log_any w1 b g S h1 k hk d dv hs1 (by have := HSM.out.wks; omega) (fun o ho => (HS.out.seen k o ho).1) (fun p hp => by have := HSM.out.row k p hp; omega))
  unfold kv deedV at HLG
  go_wp2_with fail
  refine HLG.out.mono ?_
  rintro e w2 ⟨rfl, g2, h2, hpm, hsv, hf2⟩
  clear HLG k0 k1 k2 k3 d0 d1 d2 d3
  have hK2 := hK.fr hf2 hj0 (logOf_junk k)
  have hD2 := hD.fr hf2 hj1 (logOf_junk k)
  have hs2 := hs1.fr hf2 (logOf_junk k)
  have hj02 : g2.r w.heap.size = .junk := by rw [hf2.role _ (by omega)]; exact hj0
  have hj12 : g2.r (w.heap.size + 1) = .junk := by rw [hf2.role _ (by omega)]; exact hj1
  have HF2 := Lib.hid ((Fr.of_below HB.out g.r ours).trans (hf2.mono (by rintro t (rfl | rfl | rfl | rfl) <;> simp [ours])))
  clear hf2 hpm hsv h1 hK hD hs1 hj0 hj1
  have hlt2 := h2.lt
  have c2 : w2.cell? ⟨b, 2, .none⟩ = some g2.sv := cell_of_block h2.heap rfl
  obtain ⟨k0, k1, k2, k3⟩ := hK2.cells
  have hlk := PMap.look (w := w2.drew) (h2.sm.keep fun _ _ _ => rfl) Try.underlying61 zero_ptr_ob hk
  unfold kv at hlk
  go_upto_region 4 with fail
  go_region
  simp only [Exit.then]
  clear hlk
  have ho2 := h2.seen k hk
  obtain ⟨x, hx⟩ : ∃ x, g2.pm k = x := ⟨_, rfl⟩
  rw [hx] at ho2 ⊢
  have hso : (S.logged k d).seen k = S.seen k := by rw [(St.logged_seen S k d).1]
  rw [hso] at ho2
  obtain ⟨o, hoe⟩ : ∃ o, S.seen k = o := ⟨_, rfl⟩
  have hbd : ∀ o', o = some o' → o'.bytes.length ≤ 16384 ∧ 0 ≤ o'.named ∧ o'.named ≤ 500000000 := fun o' ho' => by
    have a1 := HS.out.seen k o' (by rw [hoe]; exact ho')
    have a2 := HSM.out.named k o' (by rw [hoe]; exact ho')
    exact ⟨a1.1, a1.2, by omega⟩
  rw [hoe] at ho2
  have H2 := Lib.hid h2
  have HO2 := Lib.hid ho2
  have HBD := Lib.hid hbd
  have HOE := Lib.hid hoe
  have HU := Lib.hid (used_any w2.drew g2.r false k x o (ho2.fr (Fr.of_below ((Below.refl _ _).drew) g2.r (fun _ => False)) (fun _ _ h => h) (fun h => h)) (fun o' ho' => by have := hbd o' ho'; omega))
  have HK2 := Lib.hid hK2
  have HD2 := Lib.hid hD2
  have HS2 := Lib.hid hs2
  clear h2 ho2 hbd hoe hx hso hK2 hD2 hs2 c2 k0 k1 k2 k3
  go_wp2_with fail
  refine HU.out.mono ?_
  rintro e w3 ⟨rfl, hb3⟩
  clear HU
  have HB3 : Hid (Below w2.heap.size w2 w3) := Lib.hid (((Below.refl _ _).drew).trans hb3)
  clear hb3
  have HCD : Hid (canD d o) := by have := HC.out; rw [HOE.out] at this; exact Lib.hid this
  have HWL := Lib.hid (HS.out.logged hk d)
  have HDB := Lib.hid (fun o' ho' => by have := doneD_bd HCD.out (N := 500000000) (by omega) HBD.out o' ho'; omega : ∀ o', doneD d o = some o' → o'.bytes.length ≤ 100000 ∧ 0 ≤ o'.named ∧ o'.named ≤ 1099511627776)
  have HUB : Hid (0 ≤ usedOf o ∧ usedOf o ≤ 1099511627776) := by
    refine Lib.hid ?_
    cases o with
    | none => simp [usedOf]
    | some o => have := HBD.out o rfl; simp only [usedOf]; omega
  have HUS : Hid (-1099511627776 ≤ (S.logged k d).used ∧ (S.logged k d).used ≤ 1099511627776) := by
    refine Lib.hid ?_
    rw [(St.logged_seen S k d).2.2.1]
    have := HSM.out.used
    omega
  have HLN : Hid ((S.logged k d).sks.length ≤ 1000000) := by
    refine Lib.hid ?_
    rw [(St.logged_seen S k d).2.1]
    have := HSM.out.sks
    omega
  go_upto_region 6 with fail
-- REG D6
  refine wp_region_ptab (L := fun ph => match ph with | 0 => [cV (.pointer (some ⟨b, 0, .none⟩)), cV (.agg #[.int .i64 k.a, .int .i64 k.b, .int .i64 k.c, .int .i64 k.d]), cV (.agg #[.int .i64 d.kind, .int .i64 d.at_, .string ⟨d.name.toArray⟩, dv]), cV (ptrV x), dnV w2 g2.r k (doneD d o), cV (.int .i64 (usedOf o)), tV] | 1 => [cV (.pointer (some ⟨b, 0, .none⟩)), cV (.agg #[.int .i64 k.a, .int .i64 k.b, .int .i64 k.c, .int .i64 k.d]), cV (.agg #[.int .i64 d.kind, .int .i64 d.at_, .string ⟨d.name.toArray⟩, dv]), cV (ptrV x), dnV w2 g2.r k (doneD d o), cV (.int .i64 (usedOf o)), tV] | _ => [cV (.pointer (some ⟨b, 0, .none⟩)), cV (.agg #[.int .i64 k.a, .int .i64 k.b, .int .i64 k.c, .int .i64 k.d]), cV (.agg #[.int .i64 d.kind, .int .i64 d.at_, .string ⟨d.name.toArray⟩, dv]), cV (ptrV x), tV, cV (.int .i64 (usedOf o)), tV]) (jD w2 b g2 ((S.logged k d).laid k (doneD d o) (usedOf o)) w.heap.size k) [4, 6] [(0, 1), (0, 1), (0, 0), (0, 0), (0, 1), (0, 1), (1, 2)] [[(0, none)], [(4, none)], [(5, none)], [(7, none)], [(25, some 2), (26, some 3)], [(8, none)], [(23, some 0), (24, some 1), (27, some 4), (28, some 5)]] 7 2 37 (by kernel_rfl) rfl rfl rfl (by kernel_rfl) (by kernel_rfl) (by decide) (by kernel_rfl) ?_ ?_ ?_ ?_ ?_
  · exact fun ph w1 w2 h hb => jD_st ph h hb
  · exact HB3.out
  · show ∀ i, i < 7 → _
    iterate 7 (refine fls ?_ ?_)
    · exact fl0
    · intro hne lo hi ph hran hp1 hp2 a w1 hJ hsz hs      -- 0: slot 23
      obtain ⟨rfl, rfl⟩ : 0 = lo ∧ 1 = hi := Prod.mk.inj (Option.some.inj hran)
      rcases (by omega : ph = 0 ∨ ph = 1) with rfl | rfl
      · obtain ⟨h0, _⟩ := hs
        have h0 : a.tmps.getD 0 undef = .pointer (some ⟨b, 0, .none⟩) := h0
        refine op_run rfl rfl (v := .pointer (some ⟨b, 0, .none⟩)) (w' := w1) ?_ rfl (Below.refl _ _)
        simp [execOp, Act.eval, h0, go_sem]
      · obtain ⟨h0, _⟩ := hs
        have h0 : a.tmps.getD 0 undef = .pointer (some ⟨b, 0, .none⟩) := h0
        refine op_run rfl rfl (v := .pointer (some ⟨b, 0, .none⟩)) (w' := w1) ?_ rfl (Below.refl _ _)
        simp [execOp, Act.eval, h0, go_sem]
    · intro hne lo hi ph hran hp1 hp2 a w1 hJ hsz hs      -- 1: slot 24
      obtain ⟨rfl, rfl⟩ : 0 = lo ∧ 1 = hi := Prod.mk.inj (Option.some.inj hran)
      rcases (by omega : ph = 0 ∨ ph = 1) with rfl | rfl
      · obtain ⟨h0, _⟩ := hs
        have h0 : a.tmps.getD 4 undef = .pointer (some ⟨w.heap.size, 0, .none⟩) := h0
        obtain ⟨c, c', c'', c'''⟩ : w1.cell? ⟨w.heap.size, 0, .none⟩ = some (.int .i64 k.a) ∧ w1.cell? ⟨w.heap.size, 1, .none⟩ = some (.int .i64 k.b) ∧ w1.cell? ⟨w.heap.size, 2, .none⟩ = some (.int .i64 k.c) ∧ w1.cell? ⟨w.heap.size, 3, .none⟩ = some (.int .i64 k.d) := KeyAt.cells (jD_key HK2.out 0 (by decide) hJ)
        refine op_run rfl rfl (v := .agg #[.int .i64 k.a, .int .i64 k.b, .int .i64 k.c, .int .i64 k.d]) (w' := w1) ?_ rfl (Below.refl _ _)
        simp [execOp, Act.eval, h0, c, c', c'', c''', go_sem]
      · obtain ⟨h0, _⟩ := hs
        have h0 : a.tmps.getD 4 undef = .pointer (some ⟨w.heap.size, 0, .none⟩) := h0
        obtain ⟨c, c', c'', c'''⟩ : w1.cell? ⟨w.heap.size, 0, .none⟩ = some (.int .i64 k.a) ∧ w1.cell? ⟨w.heap.size, 1, .none⟩ = some (.int .i64 k.b) ∧ w1.cell? ⟨w.heap.size, 2, .none⟩ = some (.int .i64 k.c) ∧ w1.cell? ⟨w.heap.size, 3, .none⟩ = some (.int .i64 k.d) := KeyAt.cells (jD_key HK2.out 1 (by decide) hJ)
        refine op_run rfl rfl (v := .agg #[.int .i64 k.a, .int .i64 k.b, .int .i64 k.c, .int .i64 k.d]) (w' := w1) ?_ rfl (Below.refl _ _)
        simp [execOp, Act.eval, h0, c, c', c'', c''', go_sem]
    · intro hne lo hi ph hran hp1 hp2 a w1 hJ hsz hs      -- 2: slot 25
      obtain ⟨rfl, rfl⟩ : 0 = lo ∧ 0 = hi := Prod.mk.inj (Option.some.inj hran)
      obtain rfl : ph = 0 := by omega
      obtain ⟨h0, _⟩ := hs
      have h0 : a.tmps.getD 5 undef = .pointer (some ⟨w.heap.size + 1, 0, .none⟩) := h0
      obtain ⟨c, c', c'', c'''⟩ := DeedAt.cells (HD2.out.later hJ)
      refine op_run rfl rfl (v := .agg #[.int .i64 d.kind, .int .i64 d.at_, .string ⟨d.name.toArray⟩, dv]) (w' := w1) ?_ rfl (Below.refl _ _)
      simp [execOp, Act.eval, h0, c, c', c'', c''', go_sem]
    · intro hne lo hi ph hran hp1 hp2 a w1 hJ hsz hs      -- 3: slot 26
      obtain ⟨rfl, rfl⟩ : 0 = lo ∧ 0 = hi := Prod.mk.inj (Option.some.inj hran)
      obtain rfl : ph = 0 := by omega
      obtain ⟨h0, _⟩ := hs
      have h0 : a.tmps.getD 7 undef = ptrV x := h0
      refine op_run rfl rfl (v := ptrV x) (w' := w1) ?_ rfl (Below.refl _ _)
      simp [execOp, Act.eval, h0, go_sem]
    · intro hne lo hi ph hran hp1 hp2 a w1 hJ hsz hs      -- 4: slot 27
      exact absurd (by decide) hne
    · intro hne lo hi ph hran hp1 hp2 a w1 hJ hsz hs      -- 5: slot 28
      obtain ⟨rfl, rfl⟩ : 0 = lo ∧ 1 = hi := Prod.mk.inj (Option.some.inj hran)
      rcases (by omega : ph = 0 ∨ ph = 1) with rfl | rfl
      · obtain ⟨h0, _⟩ := hs
        have h0 : a.tmps.getD 8 undef = .int .i64 (usedOf o) := h0
        refine op_run rfl rfl (v := .int .i64 (usedOf o)) (w' := w1) ?_ rfl (Below.refl _ _)
        simp [execOp, Act.eval, h0, go_sem]
      · obtain ⟨h0, _⟩ := hs
        have h0 : a.tmps.getD 8 undef = .int .i64 (usedOf o) := h0
        refine op_run rfl rfl (v := .int .i64 (usedOf o)) (w' := w1) ?_ rfl (Below.refl _ _)
        simp [execOp, Act.eval, h0, go_sem]
    · intro hne lo hi ph hran hp1 hp2 a w1 hJ hsz hs      -- 6: slot 29
      exact absurd (by decide) hne
  · show ∀ ph, ph < 2 → _
    iterate 2 (refine fls ?_ ?_)
    · exact fl0
    · intro i hi a w1 hJ hsz hs      -- heavy 0: op 4 slot 27
      obtain rfl : 4 = i := Option.some.inj hi
      obtain ⟨h0, h1, _⟩ := hs
      have h0 : a.tmps.getD 25 undef = .agg #[.int .i64 d.kind, .int .i64 d.at_, .string ⟨d.name.toArray⟩, dv] := h0
      have h1 : a.tmps.getD 26 undef = ptrV x := h1
      have hcalm : ∀ (wq1 wq2 : World) (kk : Nat) (v0 : Value), kk ≠ 4 → VL [cV (.pointer (some ⟨b, 0, .none⟩)), cV (.agg #[.int .i64 k.a, .int .i64 k.b, .int .i64 k.c, .int .i64 k.d]), cV (.agg #[.int .i64 d.kind, .int .i64 d.at_, .string ⟨d.name.toArray⟩, dv]), cV (ptrV x), dnV w2 g2.r k (doneD d o), cV (.int .i64 (usedOf o)), tV] kk wq1 v0 → VL [cV (.pointer (some ⟨b, 0, .none⟩)), cV (.agg #[.int .i64 k.a, .int .i64 k.b, .int .i64 k.c, .int .i64 k.d]), cV (.agg #[.int .i64 d.kind, .int .i64 d.at_, .string ⟨d.name.toArray⟩, dv]), cV (ptrV x), dnV w2 g2.r k (doneD d o), cV (.int .i64 (usedOf o)), tV] kk wq2 v0 := Calm.all (n := 0) ⟨.inl ⟨_, rfl, rfl⟩, .inl ⟨_, rfl, rfl⟩, .inl ⟨_, rfl, rfl⟩, .inl ⟨_, rfl, rfl⟩, .inr (.inr rfl), .inl ⟨_, rfl, rfl⟩, .inr (.inl rfl), trivial⟩
      refine hv_call rfl rfl (f := 61) (args := #[.agg #[.int .i64 d.kind, .int .i64 d.at_, .string ⟨d.name.toArray⟩, dv], ptrV x]) (by simp [execOp, Act.eval, resolve, h0, h1, go_sem]) ?_
      refine (done_any w1 g2.r false k x o (HO2.out.fr (Fr.of_below hJ g2.r (fun _ => False)) (fun _ _ h => h) (fun h => h)) (fun o' ho' => (HBD.out o' ho').1) (Dom.later H2.out.dom (Below.size hJ)) d dv (HS2.out.later hJ) HCD.out).mono ?_
      rintro e w' ⟨x', r', rfl, hf, hd, ho⟩
      exact ⟨_, rfl, ⟨x', rfl, r', (Fr.of_below hJ g2.r _).trans hf, hd, ho⟩, (HK2.out.later hJ).fr hf hj02 (by rintro (h | h | h) <;> cases h), hcalm _ _⟩
    · intro i hi a w1 hJ hsz hs      -- heavy 1: op 6 slot 29
      obtain rfl : 6 = i := Option.some.inj hi
      obtain ⟨h0, h1, h2, h3, _⟩ := hs
      have h0 : a.tmps.getD 23 undef = .pointer (some ⟨b, 0, .none⟩) := h0
      have h1 : a.tmps.getD 24 undef = .agg #[.int .i64 k.a, .int .i64 k.b, .int .i64 k.c, .int .i64 k.d] := h1
      obtain ⟨y2, h2, r2, f2, dm2, o2⟩ := h2
      have h3 : a.tmps.getD 28 undef = .int .i64 (usedOf o) := h3
      have hcalm : ∀ (wq1 wq2 : World) (kk : Nat) (v0 : Value), kk ≠ 6 → VL [cV (.pointer (some ⟨b, 0, .none⟩)), cV (.agg #[.int .i64 k.a, .int .i64 k.b, .int .i64 k.c, .int .i64 k.d]), cV (.agg #[.int .i64 d.kind, .int .i64 d.at_, .string ⟨d.name.toArray⟩, dv]), cV (ptrV x), dnV w2 g2.r k (doneD d o), cV (.int .i64 (usedOf o)), tV] kk wq1 v0 → VL [cV (.pointer (some ⟨b, 0, .none⟩)), cV (.agg #[.int .i64 k.a, .int .i64 k.b, .int .i64 k.c, .int .i64 k.d]), cV (.agg #[.int .i64 d.kind, .int .i64 d.at_, .string ⟨d.name.toArray⟩, dv]), cV (ptrV x), tV, cV (.int .i64 (usedOf o)), tV] kk wq2 v0 := Calm.all (n := 0) ⟨.inl ⟨_, rfl, rfl⟩, .inl ⟨_, rfl, rfl⟩, .inl ⟨_, rfl, rfl⟩, .inl ⟨_, rfl, rfl⟩, .inr (.inl rfl), .inl ⟨_, rfl, rfl⟩, .inr (.inr rfl), trivial⟩
      refine hv_call rfl rfl (f := 42) (args := #[.pointer (some ⟨b, 0, .none⟩), .agg #[.int .i64 k.a, .int .i64 k.b, .int .i64 k.c, .int .i64 k.d], ptrV y2, .int .i64 (usedOf o)]) (by simp [execOp, Act.eval, resolve, h0, h1, h2, h3, go_sem]) ?_
      refine (lay_any w1 b ⟨r2, g2.sv, g2.wv, g2.pm, g2.pw⟩ (S.logged k d) k hk _ (wetX_stay _ _) (H2.out.hole hk f2 dm2) y2 (doneD d o) o2 (usedOf o) ⟨HWL.out.nd.1, by rw [HWL.out.sks k]; simp [hk]⟩ HDB.out HUB.out HUS.out HLN.out).mono ?_
      rintro e w' ⟨rfl, g', a1, a2, a3, a4⟩
      exact ⟨_, rfl, trivial, ⟨g', StoL.sto (by rw [a2]; exact a1), (f2.mono (by rintro t (rfl | rfl | rfl) <;> simp [ours])).trans (a4.mono (by rintro t (rfl | rfl) <;> simp [ours]))⟩, hcalm _ _⟩
  · intro f w1 hJ hv
    simp only [Exit.then]
    simp only [putAll, List.foldl_cons, List.foldl_nil, Option.getD_some, Act.put, List.setIfInBounds_toArray, List.set_cons_succ, List.set_cons_zero]
    clear hv
    obtain ⟨g3, h3, hf3⟩ := hJ
    have c5 : w1.cell? ⟨b, 5, .none⟩ = some (.int .i64 S.deeds) := by
      have e : ((S.logged k d).laid k (doneD d o) (usedOf o)).deeds = S.deeds := (St.logged_seen S k d).2.2.2.1
      rw [← e]
      exact cell_of_block (i := 5) h3.heap rfl
    have f5 : w1.frozen? ⟨b, 5, .none⟩ = false := frozen_of_block h3.heap 5
    have hdb : 0 ≤ S.deeds ∧ S.deeds ≤ 100000 := by have := HSM.out.deeds; omega
    obtain ⟨hd0, hd1⟩ := hdb
    have HST := Lib.hid (h3.setDeeds (S.deeds + 1))
    have HF3 := Lib.hid (HF2.out.trans hf3)
    clear h3 hf3
    go_wp2_with fail
    go_ret
    refine ⟨rfl, g3, ?_, HF3.out.trans HST.out.2⟩
    unfold St.did
    rw [HOE.out]
    exact HST.out.1
-- END D6
end Go.Proofs.Ytgjdabneodkmpaa
