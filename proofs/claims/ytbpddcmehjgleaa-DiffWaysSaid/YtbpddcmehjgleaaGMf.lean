/- Images: the document's own Apply of a Snap; what Unsnap and Roll use too. | Images: the document's own Apply of an Unsnap. | Images: the document's own Apply of a Roll; all kinds. -/
import Derived.Test.YtbpddcmehjgleaaGMe
import Derived.Test.YtbpddcmehjgleaaGapp
import Derived.Test.YtbpddcmehjgleaaApp
namespace Go.Proofs.Ytbpddcmehjgleaa
open Go.RowKit Go.Proofs
set_option linter.unusedVariables false
set_option linter.unusedSimpArgs false
set_option linter.unnecessarySimpa false

/-! ### one's own things, apart by their types -/
theorem Own.recB {W0 w : World} {v : Value} {l : List UInt8} (h : Own W0 w v l) {k : Nat} (hk : v.ownBlock = some k) : ∃ cur, RecAt w k cur 5 := by
  rcases h.1.2 with ⟨hv, _⟩ | ⟨g', cap', cur, hv, hb, hg, _⟩
  · rw [hv] at hk; simp [Value.ownBlock] at hk
  · rw [hv] at hk
    simp only [Value.ownBlock, Option.some.injEq] at hk
    subst hk
    exact ⟨cur, hg⟩
theorem Own.ltB {W0 w : World} {v : Value} {l : List UInt8} (h : Own W0 w v l) {k : Nat} (hk : v.ownBlock = some k) : W0.heap.size ≤ k ∧ k < w.heap.size := World.ownsRow.lt h.1 k hk
theorem NOwn.ltB {α : Type} {sz : Nat} {tE tS : TypeId} {E : Rel α} {J : Nat → Prop} {W0 w : World} {v : Value} {ts : List α} (h : NOwn J sz tE tS E W0 w v ts) {k : Nat} (hk : v.ownBlock = some k) : W0.heap.size ≤ k ∧ k < w.heap.size := by
  obtain ⟨css, h1, h2⟩ := h
  exact World.ownsRow.lt h1.1 k hk
theorem NOwn.neT {α : Type} {sz : Nat} {tE tS : TypeId} {E : Rel α} {J : Nat → Prop} {W0 w : World} {v : Value} {ts : List α} (h : NOwn J sz tE tS E W0 w v ts) {P : Nat} {cs : Array Value} {T : TypeId} (hr : RecAt w P cs T) (hE : tE ≠ T) : v.ownBlock ≠ some P := by
  obtain ⟨css, h1, h2⟩ := h
  exact h1.ne hr hE
theorem Own.neN {α : Type} {sz : Nat} {tE tS : TypeId} {E : Rel α} {J : Nat → Prop} {W0 W1 w : World} {d v : Value} {l : List UInt8} {ts : List α} (h : Own W0 w d l) (h2 : NOwn J sz tE tS E W1 w v ts) (hE : tE ≠ 5) : d.ownBlock = none ∨ d.ownBlock ≠ v.ownBlock := by
  cases hk : d.ownBlock with
  | none => exact .inl rfl
  | some k =>
    obtain ⟨cur, hr⟩ := h.recB hk
    exact .inr (fun e => h2.neT hr hE e.symm)
theorem BQ.own_at {J : Nat → Prop} {W0 w : World} {v : Value} {l : List UInt8} (h : Own W0 w v l) (hJ : ∀ k, v.ownBlock = some k → J k) : BQ J w v l := by
  obtain ⟨a, cap, hv, hr⟩ := h.row
  refine ⟨a, cap, hv, hr, fun _ x hx => ?_⟩
  have hk : v.ownBlock = some x.block := by rw [hv, hx]; rfl
  exact ⟨(World.ownsRow.lt h.1 x.block hk).2, hJ _ hk⟩
theorem hv_non {α : Type} {sz : Nat} {tE tS : TypeId} {E : Rel α} {J : Nat → Prop} (hR : (rawT sz tE tS).Ok) (hE : RelOk E) {ops : Array Oper} {Q : Exit → Act → World → Prop} {L L' : List SV} {J' : World → Prop} {i : Nat} {a : Act} {w : World} {o : Oper} (hi : ops[i]? = some o) (hg : o.guard = none) (s x : Operand)
    (ho : o.op = .call { callee := .builtin .append, args := #[s, x], argTypes := #[tS, tS] })
    (v : Value) (ts : List α) (hs : a.eval s = v) (W0 : World) (hown : NOwn J sz tE tS E W0 w v ts) (g : Nat) (cs : Array Value) (hrec : RecAt w g cs tE) (hl : cs.toList.length = sz) (h1 : ∀ u ∈ cs.toList, u.oneCell' = true) (t : α) (ht : E (lessJ J v) w cs.toList t)
    (hx : a.eval x = .slice (some ⟨g, 0, none⟩) 1 1) (hlen : ts.length + 1 ≤ 1000000)
    (h : ∀ v' w', NOwn J sz tE tS E W0 w' v' (ts ++ [t]) → w.grownBy w' v.ownBlock → VL L' i w' v' ∧ J' w' ∧ ∀ k v0, k ≠ i → VL L k w v0 → VL L' k w' v0) : HvGoal Try.prog ops Q L L' J' i a w := by
  obtain ⟨css, g1, g2⟩ := hown
  obtain ⟨v', w', r1, r2, r3, r4⟩ := run_gapp hR v css W0 g1 (some ⟨g, 0, none⟩) 1 1 [(⟨cs.toList, hl, h1⟩ : Raw sz)] (grow_of_rec hR hrec trivial rfl) rfl o.type (by rw [g2.1]; exact hlen)
  have key : ∀ c u, E (lessJ J v) w c u → E (lessJ J v') w' c u := fun c u hc => lean_grown hE hc r3 r4 (Nat.le_refl _)
  obtain ⟨q1, q2, q3⟩ := h v' w' ⟨_, r2, (g2.mono fun c u hc => key _ _ hc).append (Both.one (key _ _ ht))⟩ r3
  refine hv_run (v := v') (w' := w') hi hg ?_ q1 q2 q3
  unfold execOp
  simp only [ho, resolve, invoke, builtin, Sem.run_bind, Sem.run_pure, Result.andThen_ok, List.map_toArray, List.map_cons, List.map_nil, hs, hx, r1]
theorem hv_nons {α : Type} {sz : Nat} {tE tS : TypeId} {E : Rel α} {J : Nat → Prop} (hR : (rawT sz tE tS).Ok) (hE : RelOk E) {ops : Array Oper} {Q : Exit → Act → World → Prop} {L L' : List SV} {J' : World → Prop} {i : Nat} {a : Act} {w : World} {o : Oper} (hi : ops[i]? = some o) (hg : o.guard = none) (s x : Operand)
    (ho : o.op = .call { callee := .builtin .append, args := #[s, x], argTypes := #[tS, tS] })
    (v : Value) (ts : List α) (hs : a.eval s = v) (W0 : World) (hown : NOwn J sz tE tS E W0 w v ts) (us : List α) (xa : Option Addr) (xn xc : Nat) (hx : a.eval x = .slice xa xn xc) (hr : QRow (lessJ J v) sz tE tS E w (.slice xa xn xc) us) (hlen : ts.length + us.length ≤ 1000000)
    (h : ∀ v' w', NOwn J sz tE tS E W0 w' v' (ts ++ us) → w.grownBy w' v.ownBlock → VL L' i w' v' ∧ J' w' ∧ ∀ k v0, k ≠ i → VL L k w v0 → VL L' k w' v0) : HvGoal Try.prog ops Q L L' J' i a w := by
  obtain ⟨css, g1, g2⟩ := hown
  obtain ⟨dss, a', cap', hv, h1, h2, h3⟩ := hr
  simp only [Value.slice.injEq] at hv
  obtain ⟨rfl, rfl, rfl⟩ := hv
  obtain ⟨v', w', r1, r2, r3, r4⟩ := run_gapp hR v css W0 g1 _ _ _ dss h1 h3.1 o.type (by rw [g2.1, h3.1]; exact hlen)
  have key : ∀ c u, E (lessJ J v) w c u → E (lessJ J v') w' c u := fun c u hc => lean_grown hE hc r3 r4 (Nat.le_refl _)
  obtain ⟨q1, q2, q3⟩ := h v' w' ⟨_, r2, (g2.mono fun c u hc => key _ _ hc).append (h3.mono fun c u hc => key _ _ hc)⟩ r3
  refine hv_run (v := v') (w' := w') hi hg ?_ q1 q2 q3
  unfold execOp
  simp only [ho, resolve, invoke, builtin, Sem.run_bind, Sem.run_pure, Result.andThen_ok, List.map_toArray, List.map_cons, List.map_nil, hs, hx, r1]

/-! ### what holds in a region that appends to the snapshots and stores them -/
abbrev tSt : TypeId := 32
def jSn (JM : Nat → Prop) (wo : World) (X PX : Nat) (d v : Value) (l : List UInt8) (sn os : List Od) : Nat → World → Prop
  | 0, w => Below wo.heap.size wo w ∧ RecAt w PX #[d, v] tSt ∧ RecAt w (X + 2) zeroSt tSt ∧ Own wo w d l ∧ OO JM wo w v sn
  | 1, w => Below wo.heap.size wo w ∧ RecAt w PX #[d, v] tSt ∧ RecAt w (X + 2) zeroSt tSt ∧ Own wo w d l
  | _ + 2, w => ∃ a c, Below wo.heap.size wo w ∧ RecAt w PX #[d, .slice a os.length c] tSt ∧ RecAt w (X + 2) zeroSt tSt ∧ Own wo w d l ∧ OO JM wo w (.slice a os.length c) os
theorem jSn_st (JM : Nat → Prop) (wo : World) (X PX : Nat) (d v : Value) (l : List UInt8) (sn os : List Od) : ∀ ph w1 w2, jSn JM wo X PX d v l sn os ph w1 → Below w1.heap.size w1 w2 → jSn JM wo X PX d v l sn os ph w2
  | 0, w1, w2, h, hb => ⟨h.1.trans (hb.mono h.1.size), h.2.1.later hb, h.2.2.1.later hb, h.2.2.2.1.later hb, h.2.2.2.2.later od_rel hb⟩
  | 1, w1, w2, h, hb => ⟨h.1.trans (hb.mono h.1.size), h.2.1.later hb, h.2.2.1.later hb, h.2.2.2.later hb⟩
  | _ + 2, w1, w2, h, hb => by
    obtain ⟨a, c, h1, h2, h3, h4, h5⟩ := h
    exact ⟨a, c, h1.trans (hb.mono h1.size), h2.later hb, h3.later hb, h4.later hb, h5.later od_rel hb⟩
theorem jSn.grown {JM : Nat → Prop} {wo : World} {X PX : Nat} {d v v1 : Value} {l : List UInt8} {sn os ts : List Od} {w w' : World} (h : jSn JM wo X PX d v l sn os 1 w) (hv : OO JM wo w v1 ts) (hX : X + 2 < wo.heap.size) (hg : w.grownBy w' v1.ownBlock) : jSn JM wo X PX d v l sn os 1 w' := by
  obtain ⟨h1, h2, h3, h4⟩ := h
  refine ⟨h1.grown hg h1.size (fun k hk => (hv.ltB hk).1), h2.grown hg (fun e => hv.neT h2 (by decide) e.symm), h3.grown hg (fun e => by have := (hv.ltB e.symm).1; omega), ?_⟩
  exact h4.keptG hg (h4.neN hv (by decide)) (fun k hk => (hv.ltB hk).1)
theorem jSn.stored {JM : Nat → Prop} {wo : World} {X PX : Nat} {d v : Value} {l : List UInt8} {sn os : List Od} {w : World} {a : Option Addr} {c : Nat} (h : jSn JM wo X PX d v l sn os 1 w) (hv : OO JM wo w (.slice a os.length c) os) (hX : X + 2 < wo.heap.size) (hP : wo.heap.size ≤ PX) (hJ : ∀ b, JM b → b ≠ PX) : jSn JM wo X PX d v l sn os 2 (w.setCell ⟨PX, 1, none⟩ (.slice a os.length c)) := by
  obtain ⟨h1, h2, h3, h4⟩ := h
  have hg := grown_set w PX 1 (.slice a os.length c)
  refine ⟨a, c, h1.grown hg h1.size (fun k e => by cases e; exact hP), h2.set 1 _, h3.other (by omega) 1 _, ?_, hv.keptG od_rel hg hP h2 (by decide) hJ⟩
  exact h4.keptG hg (.inr (h4.neT h2 (by decide))) (fun k e => by cases e; exact hP)
def ogV (W0 : World) (T : ByteArray) (l : List UInt8) : SV := ⟨fun w x => ∃ d, x = .agg #[.string T, d] ∧ Own W0 w d l, fun w w' x ⟨d, h1, h2⟩ hb => ⟨d, h1, h2.later hb⟩⟩
def orV (W0 : World) (T : ByteArray) (l : List UInt8) : SV := ⟨fun w x => ∃ g d, x = .slice (some ⟨g, 0, none⟩) 1 1 ∧ RecAt w g #[.string T, d] 38 ∧ W0.heap.size ≤ g ∧ Own W0 w d l, fun w w' x ⟨g, d, h1, h2, h3, h4⟩ hb => ⟨g, d, h1, h2.later hb, h3, h4.later hb⟩⟩
theorem snap_none {s : Sx} {e : Ev} (hr : e.right = true) (hk : e.kind = 5) (hc : checkM s e = 0) : s.snaps.length < 8 := by
  rw [check_snap hr hk] at hc
  split at hc
  · cases hc
  · split at hc
    · cases hc
    · omega
theorem name_some {s : Sx} {e : Ev} (hr : e.right = true) (hk : e.kind = 6 ∨ e.kind = 7) (hc : checkM s e = 0) : ∃ K o, placeO s.snaps e.name = some K ∧ findO s.snaps e.name = (K : Int) ∧ s.snaps[K]? = some o ∧ lookO s.snaps e.name = some o := by
  rw [check_name hr hk] at hc
  split at hc
  · rename_i h
    unfold findO at h
    cases hp : placeO s.snaps e.name with
    | none => rw [hp] at h; simp at h
    | some K =>
      obtain ⟨o, h1, h2, h3⟩ := placeO_look hp
      exact ⟨K, o, rfl, by unfold findO; rw [hp], h1, h2⟩
  · cases hc
-- HEAD
set_option maxRecDepth 20000 in
set_option maxHeartbeats 12800000 in
theorem rapply14_k5 (d v : Value) (s : Sx) (k o m : Int) (a : Option Addr) (n c : Nat) (l : List UInt8) (T : ByteArray) (J : Nat → Prop) (w : World) (hJ : NewJ J w) (h : StA J w d v s) (hr : Row w a c l) (hn : l.length = n) (hT : T.size ≤ 9223372036854775807) (hb1 : s.data.length ≤ 100000) (hb2 : s.snaps.length ≤ 100000) (hkk : checkM s ⟨k, o, m, l, T.data.toList⟩ = 0 → k = 5) :
    Calls Try.prog 33 #[.agg #[d, v], .agg #[.int .i64 k, .int .i64 o, .int .i64 m, .slice a n c, .string T]] w fun e w' => ApplyIs J w s ⟨k, o, m, l, T.data.toList⟩ e w' := by
  obtain ⟨a1, c1, a2, c2, rfl, rfl, rd, rs⟩ := h.open
  obtain ⟨X2, X3, X4, B3⟩ := three_recsS w #[.slice a1 s.data.length c1, .slice a2 s.snaps.length c2] #[.int .i64 k, .int .i64 o, .int .i64 m, .slice a n c, .string T] zeroSt 32 46 32
  obtain ⟨wa, hwo⟩ : ∃ W, (((w.alloc (.cells #[.slice a1 s.data.length c1, .slice a2 s.snaps.length c2] 32)).alloc (.cells #[.int .i64 k, .int .i64 o, .int .i64 m, .slice a n c, .string T] 46)).alloc (.cells zeroSt 32)) = W := ⟨_, rfl⟩
  rw [hwo] at X2 X3 X4 B3
  have HCK := Lib.hid (fun W (hb : Below wa.heap.size wa W) => rcheck14_any (.slice a1 s.data.length c1) (.slice a2 s.snaps.length c2) s o m a n c l T J W k ((h.later B3).later hb) ((hr.later B3).later hb) hn hT)
  obtain ⟨nd, hnd⟩ : ∃ z, s.data.length = z := ⟨_, rfl⟩
  obtain ⟨ns, hns⟩ : ∃ z, s.snaps.length = z := ⟨_, rfl⟩
  rw [hnd] at X2 hwo HCK ⊢
  rw [hns] at X2 hwo rs HCK ⊢
  have HX2a := Lib.hid X2
  have HX3a := Lib.hid X3
  have HX4a := Lib.hid X4
  have HB3 := Lib.hid B3
  have HN1 : Hid (nd ≤ 1000000) := Lib.hid (by omega)
  have HN2 : Hid (ns ≤ 1000000) := Lib.hid (by omega)
  have HN3 : Hid (nd ≤ 100000 ∧ ns ≤ 100000) := Lib.hid ⟨by omega, by omega⟩
  have HND := Lib.hid hnd
  have HNS := Lib.hid hns
  have HRDa := Lib.hid (rd.later B3)
  have HRSa := Lib.hid (rs.later od_rel B3)
  have HEVa := Lib.hid (hr.later B3)
  have HN := Lib.hid hn
  have HJ := Lib.hid hJ
  obtain ⟨hl1, hl2⟩ := rs.lim
  obtain ⟨ev, hev⟩ : ∃ z, (⟨k, o, m, l, T.data.toList⟩ : Ev) = z := ⟨_, rfl⟩
  have HKK := Lib.hid hkk
  rw [hev] at HCK HKK ⊢
  have HEVE := Lib.hid hev
  have HROa := Lib.hid ((rs.weak od_rel (J' := oldJ J w) fun b hb hj => ⟨hj, hb⟩).later od_rel B3)
  obtain ⟨JO, hJO⟩ : ∃ JO, oldJ J w = JO := ⟨_, rfl⟩
  have HJO : Hid (∀ b, JO b → b < w.heap.size ∧ J b) := Lib.hid (by rw [← hJO]; exact fun b hb => ⟨hb.2, hb.1⟩)
  rw [hJO] at HROa
  have HWS := Lib.hid X4.lt
  clear X2 X3 X4 B3 rd rs h hr hn hnd hns hJ hb1 hb2 hev hJO hkk
  go_enter Try.func33, Try.ntmps33
  go_upto_region 1 with fail
  try rw [hwo]
  clear hwo
  obtain ⟨X, hX⟩ : ∃ X, w.heap.size = X := ⟨_, rfl⟩
  simp only [hX] at HX2a HX3a HX4a HJO HWS ⊢
  have HXS := Lib.hid hX
  clear hX
  obtain ⟨x0, x1⟩ := HX2a.out.c2
  obtain ⟨y0, y1, y2, y3, y4⟩ := HX3a.out.c5
  obtain ⟨CK, hCK⟩ : ∃ z, checkM s ev = z := ⟨_, rfl⟩
  rw [hCK] at HCK HKK
  have HCKE := Lib.hid hCK
  clear hCK
  go_wp2_with fail
  refine (HCK.out wa (Below.refl _ _)).mono ?_
  rintro e wo ⟨rfl, b2⟩
  have HB2 := Lib.hid (HB3.out.trans (b2.mono HB3.out.size))
  have HX2 := Lib.hid (HX2a.out.later b2)
  have HX3 := Lib.hid (HX3a.out.later b2)
  have HX4 := Lib.hid (HX4a.out.later b2)
  have HRD := Lib.hid (HRDa.out.later b2)
  have HRS := Lib.hid (HRSa.out.later od_rel b2)
  have HEV := Lib.hid (HEVa.out.later b2)
  have HRO := Lib.hid (HROa.out.later od_rel b2)
  have HWO : Hid (X + 2 < wo.heap.size) := Lib.hid (Nat.lt_of_lt_of_le HWS.out b2.size)
  clear b2 x0 x1 y0 y1 y2 y3 y4 HCK HX2a HX3a HX4a HRDa HRSa HEVa HROa HWS
  by_cases hc0 : CK = 0
  · have hcn : (CK != 0) = false := by simp [hc0]
    have HAP : Hid (applyM s ev = (doneM s ev, 0)) := Lib.hid (applyM_yes (by rw [HCKE.out]; exact hc0))
    have hc0' : CK = 0 := hc0
    clear hc0
    go_upto_region 4 with fail
    clear hcn
    have ub0 := Try.underlying32
    -- REG A4
    refine wp_region_ptabW (L := fun ph => match ph with | 0 => [ebV wo, cV (.pointer (some ⟨X, 0, none⟩)), cV (.slice a1 nd c1), obV wo s.data, eoV wo, cV (.pointer (some ⟨X, 1, none⟩)), cV (.slice a2 ns c2), ooV JO wo s.snaps, agV JO wo s, zsV wo, tV] | _ => [tV, cV (.pointer (some ⟨X, 0, none⟩)), cV (.slice a1 nd c1), tV, tV, cV (.pointer (some ⟨X, 1, none⟩)), cV (.slice a2 ns c2), tV, tV, rsV JO wo s, tV]) (fun _ wq => Below wo.heap.size wo wq) [10] [(0, 0), (0, 0), (0, 0), (0, 0), (0, 0), (0, 0), (0, 0), (0, 0), (0, 0), (0, 0), (0, 1)] [[], [(2, none)], [(18, some 1)], [(17, some 0), (19, some 2)], [], [(2, none)], [(22, some 5)], [(21, some 4), (23, some 6)], [(20, some 3), (24, some 7)], [], [(7, some 9), (25, some 8)]] 11 1 110 (by kernel_rfl) rfl rfl rfl (by kernel_rfl) (by kernel_rfl) (by decide) (by kernel_rfl) ?_ ?_ ?_ ?_ ?_
    · exact fun ph w1 w2 h hb => h.trans (hb.mono h.size)
    · exact (Below.refl _ _)
    · show ∀ i, i < 11 → _
      iterate 11 (refine fls ?_ ?_)
      · exact fl0
      · intro hne lo hi ph hran hp1 hp2 a w1 hJ hsz hs      -- 0: slot 17
        obtain ⟨rfl, rfl⟩ : 0 = lo ∧ 0 = hi := Prod.mk.inj (Option.some.inj hran)
        obtain rfl : ph = 0 := by omega
        exact op_run rfl rfl (v := .slice (some ⟨w1.heap.size, 0, none⟩) 0 0) (w' := w1.alloc (.cells #[] 5)) (by simp [execOp, Act.eval, go_sem]) ⟨w1.heap.size, rfl, (own_empty (W0 := w1) (w := w1) (Below.refl _ _)).back (show Below wo.heap.size wo w1 from hJ)⟩ ((Below.refl _ _).alloc (Nat.le_refl _) _)
      · intro hne lo hi ph hran hp1 hp2 a w1 hJ hsz hs      -- 1: slot 18
        obtain ⟨rfl, rfl⟩ : 0 = lo ∧ 0 = hi := Prod.mk.inj (Option.some.inj hran)
        obtain rfl : ph = 0 := by omega
        obtain ⟨h0, _⟩ := hs
        have h0 : a.tmps.getD 2 undef = .pointer (some ⟨X, 0, none⟩) := h0
        refine op_run rfl rfl (v := .pointer (some ⟨X, 0, none⟩)) (w' := w1) ?_ rfl (Below.refl _ _)
        simp [execOp, Act.eval, h0, go_sem]
      · intro hne lo hi ph hran hp1 hp2 a w1 hJ hsz hs      -- 2: slot 19
        obtain ⟨rfl, rfl⟩ : 0 = lo ∧ 0 = hi := Prod.mk.inj (Option.some.inj hran)
        obtain rfl : ph = 0 := by omega
        obtain ⟨h0, _⟩ := hs
        have h0 : a.tmps.getD 18 undef = .pointer (some ⟨X, 0, none⟩) := h0
        obtain ⟨x0, x1⟩ := (HX2.out.later (show Below wo.heap.size wo w1 from hJ)).c2
        refine op_run rfl rfl (v := .slice a1 nd c1) (w' := w1) ?_ rfl (Below.refl _ _)
        simp [execOp, Act.eval, h0, x0, go_sem]
      · intro hne lo hi ph hran hp1 hp2 a w1 hJ hsz hs      -- 3: slot 20
        obtain ⟨rfl, rfl⟩ : 0 = lo ∧ 0 = hi := Prod.mk.inj (Option.some.inj hran)
        obtain rfl : ph = 0 := by omega
        obtain ⟨h0, h1, _⟩ := hs
        have m0 : (ebV wo).p w1 (a.tmps.getD 17 undef) := h0
        have h1 : a.tmps.getD 19 undef = .slice a1 nd c1 := h1
        obtain ⟨g, e17, o17⟩ := m0
        rw [e17] at o17
        exact op_freshB rfl rfl (.tmp 17) (.tmp 19) rfl e17 o17 a1 c1 nd s.data (HRD.out.later (show Below wo.heap.size wo w1 from hJ)) HND.out h1 HN1.out (fun v' w' hv => hv)
      · intro hne lo hi ph hran hp1 hp2 a w1 hJ hsz hs      -- 4: slot 21
        obtain ⟨rfl, rfl⟩ : 0 = lo ∧ 0 = hi := Prod.mk.inj (Option.some.inj hran)
        obtain rfl : ph = 0 := by omega
        exact op_run rfl rfl (v := .slice (some ⟨w1.heap.size, 0, none⟩) 0 0) (w' := w1.alloc (.cells #[] 38)) (by simp [execOp, Act.eval, go_sem]) ⟨w1.heap.size, rfl, GOwn.empty (show Below wo.heap.size wo w1 from hJ) rfl⟩ ((Below.refl _ _).alloc (Nat.le_refl _) _)
      · intro hne lo hi ph hran hp1 hp2 a w1 hJ hsz hs      -- 5: slot 22
        obtain ⟨rfl, rfl⟩ : 0 = lo ∧ 0 = hi := Prod.mk.inj (Option.some.inj hran)
        obtain rfl : ph = 0 := by omega
        obtain ⟨h0, _⟩ := hs
        have h0 : a.tmps.getD 2 undef = .pointer (some ⟨X, 0, none⟩) := h0
        refine op_run rfl rfl (v := .pointer (some ⟨X, 1, none⟩)) (w' := w1) ?_ rfl (Below.refl _ _)
        simp [execOp, Act.eval, h0, go_sem]
      · intro hne lo hi ph hran hp1 hp2 a w1 hJ hsz hs      -- 6: slot 23
        obtain ⟨rfl, rfl⟩ : 0 = lo ∧ 0 = hi := Prod.mk.inj (Option.some.inj hran)
        obtain rfl : ph = 0 := by omega
        obtain ⟨h0, _⟩ := hs
        have h0 : a.tmps.getD 22 undef = .pointer (some ⟨X, 1, none⟩) := h0
        obtain ⟨x0, x1⟩ := (HX2.out.later (show Below wo.heap.size wo w1 from hJ)).c2
        refine op_run rfl rfl (v := .slice a2 ns c2) (w' := w1) ?_ rfl (Below.refl _ _)
        simp [execOp, Act.eval, h0, x1, go_sem]
      · intro hne lo hi ph hran hp1 hp2 a w1 hJ hsz hs      -- 7: slot 24
        obtain ⟨rfl, rfl⟩ : 0 = lo ∧ 0 = hi := Prod.mk.inj (Option.some.inj hran)
        obtain rfl : ph = 0 := by omega
        obtain ⟨h0, h1, _⟩ := hs
        have m0 : (eoV wo).p w1 (a.tmps.getD 21 undef) := h0
        have h1 : a.tmps.getD 23 undef = .slice a2 ns c2 := h1
        obtain ⟨g, e21, o21⟩ := m0
        rw [e21] at o21
        exact op_freshO rfl rfl (.tmp 21) (.tmp 23) rfl e21 o21 a2 c2 ns s.snaps (HRO.out.later od_rel (show Below wo.heap.size wo w1 from hJ)) h1 HN2.out (fun v' w' hv => hv)
      · intro hne lo hi ph hran hp1 hp2 a w1 hJ hsz hs      -- 8: slot 25
        obtain ⟨rfl, rfl⟩ : 0 = lo ∧ 0 = hi := Prod.mk.inj (Option.some.inj hran)
        obtain rfl : ph = 0 := by omega
        obtain ⟨h0, h1, _⟩ := hs
        have m0 : (obV wo s.data).p w1 (a.tmps.getD 20 undef) := h0
        have m1 : (ooV JO wo s.snaps).p w1 (a.tmps.getD 24 undef) := h1
        have md : Own wo w1 (a.tmps.getD 20 undef) s.data := m0
        have mv : OO JO wo w1 (a.tmps.getD 24 undef) s.snaps := m1
        obtain ⟨d1, hd1⟩ : ∃ z, a.tmps.getD 20 undef = z := ⟨_, rfl⟩
        obtain ⟨v1, hv1⟩ : ∃ z, a.tmps.getD 24 undef = z := ⟨_, rfl⟩
        rw [hd1] at md
        rw [hv1] at mv
        have gd1 : a.tmps[20]?.getD undef = d1 := (Array.getD_eq_getD_getElem? ..).symm.trans hd1
        have gv1 : a.tmps[24]?.getD undef = v1 := (Array.getD_eq_getD_getElem? ..).symm.trans hv1
        refine op_run rfl rfl (v := .agg #[d1, v1]) (w' := w1) ?_ ⟨d1, v1, rfl, md, mv⟩ (Below.refl _ _)
        obtain ⟨ad, cd, rfl, _⟩ := md.row
        obtain ⟨av, cv, rfl⟩ := mv.val odT_ok rfl
        simp [execOp, Act.eval, hd1, hv1, gd1, gv1, go_sem]
      · intro hne lo hi ph hran hp1 hp2 a w1 hJ hsz hs      -- 9: slot 7
        obtain ⟨rfl, rfl⟩ : 0 = lo ∧ 0 = hi := Prod.mk.inj (Option.some.inj hran)
        obtain rfl : ph = 0 := by omega
        refine op_run rfl rfl (v := .pointer (some ⟨w1.heap.size, 0, none⟩)) (w' := w1.alloc (.cells zeroSt 32)) ?_ ⟨w1.heap.size, rfl, RecAt.new w1 _ _, (show Below wo.heap.size wo w1 from hJ).size⟩ ((Below.refl _ _).alloc (Nat.le_refl _) _)
        simp [execOp, Act.eval, go_sem, ub0, zeroSt]
      · intro hne lo hi ph hran hp1 hp2 a w1 hJ hsz hs      -- 10: slot None
        exact absurd (by decide) hne
    · show ∀ ph, ph < 1 → _
      iterate 1 (refine fls ?_ ?_)
      · exact fl0
      · intro i hi a w1 hJ hsz hs      -- heavy 0: op 10 slot None
        obtain rfl : 10 = i := Option.some.inj hi
        obtain ⟨h0, h1, _⟩ := hs
        have m0 : (zsV wo).p w1 (a.tmps.getD 7 undef) := h0
        have m1 : (agV JO wo s).p w1 (a.tmps.getD 25 undef) := h1
        obtain ⟨PX, hvx, hX, hXs⟩ := (show ∃ g, a.tmps.getD 7 undef = .pointer (some ⟨g, 0, none⟩) ∧ RecAt w1 g zeroSt 32 ∧ wo.heap.size ≤ g from m0)
        obtain ⟨d1, v1, e25, md, mv⟩ := m1
        have hone : (#[d1, v1] : Array Value).all (·.oneCell') = true := by
          obtain ⟨ad, cd, rfl, _⟩ := md.row
          obtain ⟨av, cv, rfl⟩ := mv.val odT_ok rfl
          simp [Value.oneCell']
        refine hv_recW rfl rfl (x := PX) (p := .tmp 7) (v := .tmp 25) (cs := zeroSt) (vs := #[d1, v1]) rfl hvx e25 hX rfl (by kernel_rfl) hone (fun w' => trivial) ?_
        intro w' r1 r2 r3 r4
        have hb : Below wo.heap.size wo w' := (show Below wo.heap.size wo w1 from hJ).grown r4 (show Below wo.heap.size wo w1 from hJ).size (fun q e => by cases e; exact hXs)
        have o1 : Own wo w' d1 s.data := md.keptG r4 (.inr (md.neT hX (by decide))) (fun k e => by cases e; exact hXs)
        have o2 : OO JO wo w' v1 s.snaps := mv.keptG od_rel r4 hXs hX (by decide) (fun b hb => by have := (HJO.out b hb).1; have := HWO.out; omega)
        exact ⟨hb, CalmW.all ⟨.inr fun _ _ _ => trivial, .inr fun _ _ h => h, .inr fun _ _ h => h, .inr fun _ _ _ => trivial, .inr fun _ _ _ => trivial, .inr fun _ _ h => h, .inr fun _ _ h => h, .inr fun _ _ _ => trivial, .inr fun _ _ _ => trivial, .inr fun v hh _ => ⟨PX, d1, v1, (hh _ _ rfl rfl).trans hvx, r1, hXs, o1, o2⟩, .inl rfl, trivial⟩⟩
    intro f w1 hJ hv
    have e7 : (rsV JO wo s).p w1 (f 7) := hv 9 _ 7 rfl rfl
    have hbo : Below wo.heap.size wo w1 := hJ
    clear hv
    try simp only [Exit.then]
    simp only [putAll, List.foldl_cons, List.foldl_nil, Option.getD_some, Act.put, List.setIfInBounds_toArray, List.set_cons_succ, List.set_cons_zero]
    obtain ⟨PX, d1, v1, e7, r7, hXs, o1, o2⟩ := e7
    rw [e7]
    clear hJ e7
    -- END A4
    -- one's own blocks, and those of old
    obtain ⟨JN, hJN⟩ : ∃ JN : Nat → Prop, (fun b => JO b ∨ wo.heap.size ≤ b) = JN := ⟨_, rfl⟩
    have HJN1 : Hid (∀ b, JN b → b ≠ X + 2 ∧ J b) := Lib.hid (by
      subst hJN
      rintro b (hb | hb)
      · obtain ⟨h1, h2⟩ := HJO.out b hb
        exact ⟨by omega, h2⟩
      · refine ⟨by have := HWO.out; omega, HJ.out b (by have := HB2.out.size; omega)⟩)
    have HJN2 : Hid (NewJ JN wo) := Lib.hid (by subst hJN; exact fun b hb => .inr hb)
    have HJN3 : Hid (∀ b, JO b → JN b) := Lib.hid (by subst hJN; exact fun b hb => .inl hb)
    have HBO := Lib.hid hbo
    have HR7 := Lib.hid r7
    have HO1 := Lib.hid o1
    have HO2 := Lib.hid o2
    have HX4W := Lib.hid (HX4.out.later hbo)
    have HX3W := Lib.hid (HX3.out.later hbo)
    clear hJN hbo r7 o1 o2
    have hkind := right_kind (check_right (s := s) (e := ev) (by rw [HCKE.out]; exact hc0'))
    have hevk : ev.kind = k := by rw [← HEVE.out]
    rw [hevk] at hkind
    obtain ⟨y0, y1, y2, y3, y4⟩ := HX3W.out.c5
    obtain rfl : k = 5 := HKK.out hc0'
    have hrt := check_right (s := s) (e := ev) (by rw [HCKE.out]; exact hc0')
    have hen : ev.name = T.data.toList := by rw [← HEVE.out]
    have h8 := snap_none (s := s) hrt hevk (by rw [HCKE.out]; exact hc0')
    have HDN : Hid (doneM s ev = ⟨s.data, s.snaps ++ [⟨T.data.toList, s.data⟩]⟩) := Lib.hid (by unfold doneM; rw [if_neg (by omega), if_neg (by omega), if_neg (by omega), if_pos (by omega), hen])
    obtain ⟨av, cv, hav⟩ := HO2.out.val odT_ok HNS.out
    subst hav
    obtain ⟨JM, hJM⟩ : ∃ JM : Nat → Prop, (fun b => JO b ∨ (wo.heap.size ≤ b ∧ b ≠ PX)) = JM := ⟨_, rfl⟩
    have HJM1 : Hid (∀ b, JM b → b ≠ PX) := Lib.hid (by
      subst hJM
      rintro b (hb | hb)
      · obtain ⟨h1, h2⟩ := HJO.out b hb
        have := HWO.out; omega
      · exact hb.2)
    have HJM2 : Hid (∀ b, wo.heap.size ≤ b → b ≠ PX → JM b) := Lib.hid (by subst hJM; exact fun b h1 h2 => .inr ⟨h1, h2⟩)
    have HJM3 : Hid (∀ b, JM b → JN b) := Lib.hid (by
      subst hJM
      rintro b (hb | hb)
      · exact HJN3.out b hb
      · exact HJN2.out b hb.1)
    have HO2M : Hid (OO JM wo w1 (.slice av ns cv) s.snaps) := Lib.hid (HO2.out.weakJ od_rel fun b _ hb => by subst hJM; exact .inl hb)
    have uo0 := Try.underlying30
    have uo1 := Try.underlying38
    clear hevk hkind hrt hen h8 hJM
    obtain ⟨z0, z1⟩ := HR7.out.c2
    go_upto_region 17 with fail
    clear y0 y1 y2 y3 y4 z0 z1
    -- REG A17
    refine wp_region_ptab (L := fun ph => match ph with | 0 => [cV (.pointer (some ⟨PX, 1, none⟩)), cV (.slice av ns cv), cV (.pointer (some ⟨X + 1, 4, none⟩)), cV (.string T), ebV wo, cV (.pointer (some ⟨X, 0, none⟩)), cV (.slice a1 nd c1), obV wo s.data, ogV wo T s.data, orV wo T s.data, nV, cV (.pointer (some ⟨PX, 1, none⟩)), tV] | 1 => [cV (.pointer (some ⟨PX, 1, none⟩)), cV (.slice av ns cv), cV (.pointer (some ⟨X + 1, 4, none⟩)), cV (.string T), tV, cV (.pointer (some ⟨X, 0, none⟩)), cV (.slice a1 nd c1), tV, tV, tV, ooV JM wo (s.snaps ++ [(⟨T.data.toList, s.data⟩ : Od)]), cV (.pointer (some ⟨PX, 1, none⟩)), tV] | _ => [cV (.pointer (some ⟨PX, 1, none⟩)), cV (.slice av ns cv), cV (.pointer (some ⟨X + 1, 4, none⟩)), cV (.string T), tV, cV (.pointer (some ⟨X, 0, none⟩)), cV (.slice a1 nd c1), tV, tV, tV, tV, cV (.pointer (some ⟨PX, 1, none⟩)), tV]) (jSn JM wo X PX d1 (.slice av ns cv) s.data s.snaps (s.snaps ++ [(⟨T.data.toList, s.data⟩ : Od)])) [10, 12] [(0, 0), (0, 0), (0, 0), (0, 0), (0, 0), (0, 0), (0, 0), (0, 0), (0, 0), (0, 0), (0, 1), (0, 1), (1, 2)] [[(7, none)], [(64, some 0)], [(3, none)], [(66, some 2)], [], [(2, none)], [(69, some 5)], [(68, some 4), (70, some 6)], [(67, some 3), (71, some 7)], [(72, some 8)], [(65, some 1), (73, some 9)], [(7, none)], [(75, some 11), (74, some 10)]] 13 2 110 (by kernel_rfl) rfl rfl rfl (by kernel_rfl) (by kernel_rfl) (by decide) (by kernel_rfl) ?_ ?_ ?_ ?_ ?_
    · exact jSn_st JM wo X PX d1 (.slice av ns cv) s.data s.snaps _
    · exact ⟨HBO.out, HR7.out, HX4W.out, HO1.out, HO2M.out⟩
    · show ∀ i, i < 13 → _
      iterate 13 (refine fls ?_ ?_)
      · exact fl0
      · intro hne lo hi ph hran hp1 hp2 a w1 hJ hsz hs      -- 0: slot 64
        obtain ⟨rfl, rfl⟩ : 0 = lo ∧ 0 = hi := Prod.mk.inj (Option.some.inj hran)
        obtain rfl : ph = 0 := by omega
        obtain ⟨h0, _⟩ := hs
        have h0 : a.tmps.getD 7 undef = .pointer (some ⟨PX, 0, none⟩) := h0
        refine op_run rfl rfl (v := .pointer (some ⟨PX, 1, none⟩)) (w' := w1) ?_ rfl (Below.refl _ _)
        simp [execOp, Act.eval, h0, go_sem]
      · intro hne lo hi ph hran hp1 hp2 a w1 hJ hsz hs      -- 1: slot 65
        obtain ⟨rfl, rfl⟩ : 0 = lo ∧ 0 = hi := Prod.mk.inj (Option.some.inj hran)
        obtain rfl : ph = 0 := by omega
        obtain ⟨h0, _⟩ := hs
        have h0 : a.tmps.getD 64 undef = .pointer (some ⟨PX, 1, none⟩) := h0
        have k0 : w1.cell? ⟨PX, 1, none⟩ = some (.slice av ns cv) := (show RecAt w1 PX #[d1, .slice av ns cv] 32 from hJ.2.1).cell rfl
        refine op_run rfl rfl (v := .slice av ns cv) (w' := w1) ?_ rfl (Below.refl _ _)
        simp [execOp, Act.eval, h0, k0, go_sem]
      · intro hne lo hi ph hran hp1 hp2 a w1 hJ hsz hs      -- 2: slot 66
        obtain ⟨rfl, rfl⟩ : 0 = lo ∧ 0 = hi := Prod.mk.inj (Option.some.inj hran)
        obtain rfl : ph = 0 := by omega
        obtain ⟨h0, _⟩ := hs
        have h0 : a.tmps.getD 3 undef = .pointer (some ⟨X + 1, 0, none⟩) := h0
        refine op_run rfl rfl (v := .pointer (some ⟨X + 1, 4, none⟩)) (w' := w1) ?_ rfl (Below.refl _ _)
        simp [execOp, Act.eval, h0, go_sem]
      · intro hne lo hi ph hran hp1 hp2 a w1 hJ hsz hs      -- 3: slot 67
        obtain ⟨rfl, rfl⟩ : 0 = lo ∧ 0 = hi := Prod.mk.inj (Option.some.inj hran)
        obtain rfl : ph = 0 := by omega
        obtain ⟨h0, _⟩ := hs
        have h0 : a.tmps.getD 66 undef = .pointer (some ⟨X + 1, 4, none⟩) := h0
        have k0 : w1.cell? ⟨X + 1, 4, none⟩ = some (.string T) := (HX3.out.later (show Below wo.heap.size wo w1 from hJ.1)).c5.2.2.2.2
        refine op_run rfl rfl (v := .string T) (w' := w1) ?_ rfl (Below.refl _ _)
        simp [execOp, Act.eval, h0, k0, go_sem]
      · intro hne lo hi ph hran hp1 hp2 a w1 hJ hsz hs      -- 4: slot 68
        obtain ⟨rfl, rfl⟩ : 0 = lo ∧ 0 = hi := Prod.mk.inj (Option.some.inj hran)
        obtain rfl : ph = 0 := by omega
        exact op_run rfl rfl (v := .slice (some ⟨w1.heap.size, 0, none⟩) 0 0) (w' := w1.alloc (.cells #[] 5)) (by simp [execOp, Act.eval, go_sem]) ⟨w1.heap.size, rfl, (own_empty (W0 := w1) (w := w1) (Below.refl _ _)).back (show Below wo.heap.size wo w1 from hJ.1)⟩ ((Below.refl _ _).alloc (Nat.le_refl _) _)
      · intro hne lo hi ph hran hp1 hp2 a w1 hJ hsz hs      -- 5: slot 69
        obtain ⟨rfl, rfl⟩ : 0 = lo ∧ 0 = hi := Prod.mk.inj (Option.some.inj hran)
        obtain rfl : ph = 0 := by omega
        obtain ⟨h0, _⟩ := hs
        have h0 : a.tmps.getD 2 undef = .pointer (some ⟨X, 0, none⟩) := h0
        refine op_run rfl rfl (v := .pointer (some ⟨X, 0, none⟩)) (w' := w1) ?_ rfl (Below.refl _ _)
        simp [execOp, Act.eval, h0, go_sem]
      · intro hne lo hi ph hran hp1 hp2 a w1 hJ hsz hs      -- 6: slot 70
        obtain ⟨rfl, rfl⟩ : 0 = lo ∧ 0 = hi := Prod.mk.inj (Option.some.inj hran)
        obtain rfl : ph = 0 := by omega
        obtain ⟨h0, _⟩ := hs
        have h0 : a.tmps.getD 69 undef = .pointer (some ⟨X, 0, none⟩) := h0
        have k0 : w1.cell? ⟨X, 0, none⟩ = some (.slice a1 nd c1) := (HX2.out.later (show Below wo.heap.size wo w1 from hJ.1)).c2.1
        refine op_run rfl rfl (v := .slice a1 nd c1) (w' := w1) ?_ rfl (Below.refl _ _)
        simp [execOp, Act.eval, h0, k0, go_sem]
      · intro hne lo hi ph hran hp1 hp2 a w1 hJ hsz hs      -- 7: slot 71
        obtain ⟨rfl, rfl⟩ : 0 = lo ∧ 0 = hi := Prod.mk.inj (Option.some.inj hran)
        obtain rfl : ph = 0 := by omega
        obtain ⟨h0, h1, _⟩ := hs
        have m0 : (ebV wo).p w1 (a.tmps.getD 68 undef) := h0
        have h1 : a.tmps.getD 70 undef = .slice a1 nd c1 := h1
        obtain ⟨g, e68, o68⟩ := m0
        rw [e68] at o68
        exact op_freshB rfl rfl (.tmp 68) (.tmp 70) rfl e68 o68 a1 c1 nd s.data (HRD.out.later (show Below wo.heap.size wo w1 from hJ.1)) HND.out h1 HN1.out (fun v' w' hv => hv)
      · intro hne lo hi ph hran hp1 hp2 a w1 hJ hsz hs      -- 8: slot 72
        obtain ⟨rfl, rfl⟩ : 0 = lo ∧ 0 = hi := Prod.mk.inj (Option.some.inj hran)
        obtain rfl : ph = 0 := by omega
        obtain ⟨h0, h1, _⟩ := hs
        have h0 : a.tmps.getD 67 undef = .string T := h0
        have g0 : a.tmps[67]?.getD undef = .string T := (Array.getD_eq_getD_getElem? ..).symm.trans h0
        have m1 : (obV wo s.data).p w1 (a.tmps.getD 71 undef) := h1
        have md : Own wo w1 (a.tmps.getD 71 undef) s.data := m1
        obtain ⟨d2, hd2⟩ : ∃ z, a.tmps.getD 71 undef = z := ⟨_, rfl⟩
        rw [hd2] at md
        have gd2 : a.tmps[71]?.getD undef = d2 := (Array.getD_eq_getD_getElem? ..).symm.trans hd2
        refine op_run rfl rfl (v := .agg #[.string T, d2]) (w' := w1) ?_ ⟨d2, rfl, md⟩ (Below.refl _ _)
        obtain ⟨ad, cd, rfl, _⟩ := md.row
        simp [execOp, Act.eval, h0, g0, hd2, gd2, go_sem]
      · intro hne lo hi ph hran hp1 hp2 a w1 hJ hsz hs      -- 9: slot 73
        obtain ⟨rfl, rfl⟩ : 0 = lo ∧ 0 = hi := Prod.mk.inj (Option.some.inj hran)
        obtain rfl : ph = 0 := by omega
        obtain ⟨h0, _⟩ := hs
        have m0 : (ogV wo T s.data).p w1 (a.tmps.getD 72 undef) := h0
        obtain ⟨d2, e72, md⟩ := (show ∃ d, a.tmps.getD 72 undef = .agg #[.string T, d] ∧ Own wo w1 d s.data from m0)
        have g72 : a.tmps[72]?.getD undef = .agg #[.string T, d2] := (Array.getD_eq_getD_getElem? ..).symm.trans e72
        have hba : Below w1.heap.size w1 (w1.alloc (.cells #[.string T, d2] 38)) := (Below.refl _ _).alloc (Nat.le_refl _) _
        refine op_run rfl rfl (v := .slice (some ⟨w1.heap.size, 0, none⟩) 1 1) (w' := w1.alloc (.cells #[.string T, d2] 38)) ?_ ⟨w1.heap.size, d2, rfl, RecAt.new w1 _ _, ((show Below wo.heap.size wo w1 from hJ.1)).size, md.later hba⟩ hba
        obtain ⟨ad, cd, rfl, _⟩ := md.row
        simp [execOp, Act.eval, e72, g72, go_sem, uo0, uo1]
      · intro hne lo hi ph hran hp1 hp2 a w1 hJ hsz hs      -- 10: slot 74
        exact absurd (by decide) hne
      · intro hne lo hi ph hran hp1 hp2 a w1 hJ hsz hs      -- 11: slot 75
        obtain ⟨rfl, rfl⟩ : 0 = lo ∧ 1 = hi := Prod.mk.inj (Option.some.inj hran)
        rcases (by omega : ph = 0 ∨ ph = 1) with rfl | rfl
        · obtain ⟨h0, _⟩ := hs
          have h0 : a.tmps.getD 7 undef = .pointer (some ⟨PX, 0, none⟩) := h0
          refine op_run rfl rfl (v := .pointer (some ⟨PX, 1, none⟩)) (w' := w1) ?_ rfl (Below.refl _ _)
          simp [execOp, Act.eval, h0, go_sem]
        · obtain ⟨h0, _⟩ := hs
          have h0 : a.tmps.getD 7 undef = .pointer (some ⟨PX, 0, none⟩) := h0
          refine op_run rfl rfl (v := .pointer (some ⟨PX, 1, none⟩)) (w' := w1) ?_ rfl (Below.refl _ _)
          simp [execOp, Act.eval, h0, go_sem]
      · intro hne lo hi ph hran hp1 hp2 a w1 hJ hsz hs      -- 12: slot None
        exact absurd (by decide) hne
    · show ∀ ph, ph < 2 → _
      iterate 2 (refine fls ?_ ?_)
      · exact fl0
      · intro i hi a w1 hJ hsz hs      -- heavy 0: op 10 slot 74
        obtain rfl : 10 = i := Option.some.inj hi
        obtain ⟨h0, h1, _⟩ := hs
        have h0 : a.tmps.getD 65 undef = .slice av ns cv := h0
        have m1 : (orV wo T s.data).p w1 (a.tmps.getD 73 undef) := h1
        have hJ0 : jSn JM wo X PX d1 (.slice av ns cv) s.data s.snaps (s.snaps ++ [(⟨T.data.toList, s.data⟩ : Od)]) 0 w1 := hJ
        obtain ⟨q1, q2, q3, q4, q5⟩ := hJ0
        obtain ⟨g, d2, hv1, hx, hxs, hd2⟩ := (show ∃ g d, a.tmps.getD 73 undef = .slice (some ⟨g, 0, none⟩) 1 1 ∧ RecAt w1 g #[.string T, d] 38 ∧ wo.heap.size ≤ g ∧ Own wo w1 d s.data from m1)
        have hone : ∀ u ∈ (#[.string T, d2] : Array Value).toList, u.oneCell' = true := by
          obtain ⟨ad, cd, rfl, _⟩ := hd2.row
          intro u hu
          simp at hu
          rcases hu with rfl | rfl <;> rfl
        have hbq : BQ (lessJ JM (.slice av ns cv)) w1 d2 s.data := BQ.own_at hd2 fun k hk => ⟨HJM2.out k (hd2.ltB hk).1 (fun e => by subst e; exact hd2.neT q2 (by decide) hk), fun e => by
          rcases hd2.neN q5 (by decide) with h | h
          · rw [h] at hk; cases hk
          · exact h (hk.trans e)⟩
        refine hv_non odT_ok od_rel rfl rfl (.tmp 65) (.tmp 73) rfl (.slice av ns cv) s.snaps h0 wo q5 g #[.string T, d2] hx rfl hone ⟨T.data.toList, s.data⟩ ⟨T, d2, rfl, rfl, hT, hbq⟩ hv1 (by have := HNS.out; have := HN3.out.2; omega) ?_
        intro v' w' o1 g1
        exact ⟨o1, jSn.grown ⟨q1, q2, q3, q4⟩ q5 HWO.out g1, (Calm5.all (n := 0) ⟨.inr fun _ h => h, .inr fun _ h => h, .inr fun _ h => h, .inr fun _ h => h, .inr fun _ _ => trivial, .inr fun _ h => h, .inr fun _ h => h, .inr fun _ _ => trivial, .inr fun _ _ => trivial, .inr fun _ _ => trivial, .inl rfl, .inr fun _ h => h, .inr fun _ _ => trivial, trivial⟩)⟩
      · intro i hi a w1 hJ hsz hs      -- heavy 1: op 12 slot None
        obtain rfl : 12 = i := Option.some.inj hi
        obtain ⟨h0, h1, _⟩ := hs
        have h0 : a.tmps.getD 75 undef = .pointer (some ⟨PX, 1, none⟩) := h0
        have g0 : a.tmps[75]?.getD undef = .pointer (some ⟨PX, 1, none⟩) := (Array.getD_eq_getD_getElem? ..).symm.trans h0
        have m1 : (ooV JM wo (s.snaps ++ [(⟨T.data.toList, s.data⟩ : Od)])).p w1 (a.tmps.getD 74 undef) := h1
        have hJ1 : jSn JM wo X PX d1 (.slice av ns cv) s.data s.snaps (s.snaps ++ [(⟨T.data.toList, s.data⟩ : Od)]) 1 w1 := hJ
        have m1' : OO JM wo w1 (a.tmps.getD 74 undef) (s.snaps ++ [(⟨T.data.toList, s.data⟩ : Od)]) := m1
        obtain ⟨aE, cE, he⟩ := m1'.val odT_ok (rfl : (s.snaps ++ [(⟨T.data.toList, s.data⟩ : Od)]).length = (s.snaps ++ [(⟨T.data.toList, s.data⟩ : Od)]).length)
        have he2 : a.tmps[74]?.getD undef = .slice aE (s.snaps ++ [(⟨T.data.toList, s.data⟩ : Od)]).length cE := by rw [← Array.getD_eq_getD_getElem?]; exact he
        rw [he] at m1'
        have cc : w1.cell? ⟨PX, 1, none⟩ = some (.slice av ns cv) := hJ1.2.1.cell rfl
        have cf := hJ1.2.1.frozen 1
        have hst := hJ1.stored m1' HWO.out hXs HJM1.out
        obtain ⟨LN, hLN⟩ : ∃ z, (s.snaps ++ [(⟨T.data.toList, s.data⟩ : Od)]).length = z := ⟨_, rfl⟩
        rw [hLN] at he he2 hst
        refine hv_skip rfl rfl (w' := w1.setCell ⟨PX, 1, none⟩ (.slice aE LN cE)) ?_ trivial hst (Calm5.all (n := 0) ⟨.inr fun _ h => h, .inr fun _ h => h, .inr fun _ h => h, .inr fun _ h => h, .inr fun _ _ => trivial, .inr fun _ h => h, .inr fun _ h => h, .inr fun _ _ => trivial, .inr fun _ _ => trivial, .inr fun _ _ => trivial, .inr fun _ _ => trivial, .inr fun _ h => h, .inl rfl, trivial⟩)
        simp [execOp, Act.eval, h0, g0, he, he2, go_sem, cc, cf]
    intro f w1 hJ hv
    clear hv
    try simp only [Exit.then]
    simp only [putAll, List.foldl_cons, List.foldl_nil, Option.getD_some, Act.put, List.setIfInBounds_toArray, List.set_cons_succ, List.set_cons_zero]
    obtain ⟨a6, c6, hb6, r6, r62, o61, o62⟩ := (show jSn JM wo X PX d1 (.slice av ns cv) s.data s.snaps (s.snaps ++ [(⟨T.data.toList, s.data⟩ : Od)]) 2 w1 from hJ)
    clear hJ
    -- END A17
    have HRP := Lib.hid r6
    have HXR := Lib.hid r62
    have HBR := Lib.hid hb6
    have HST := Lib.hid (fin_st o61 o62 HJN2.out HJM3.out)
    obtain ⟨ad, cd, hd1, -⟩ := o61.row
    subst hd1
    obtain ⟨LN, hLN⟩ : ∃ z, (s.snaps ++ [(⟨T.data.toList, s.data⟩ : Od)]).length = z := ⟨_, rfl⟩
    rw [hLN] at HRP HST
    clear r6 r62 hb6 o61 o62 hLN
    obtain ⟨z0, z1⟩ := HRP.out.c2
    go_wp2_with (refine wpList_rec rfl rfl (X + 2) zeroSt #[.slice ad s.data.length cd, .slice a6 LN c6] rfl rfl HXR.out rfl (by kernel_rfl) (by simp [Value.oneCell']) ?_; intro w4 r1 r2 r3 r4)
    refine bodyPost_ret (results_ct rfl rfl r1 Try.underlying32 rfl (by kernel_rfl)) rfl ?_
    unfold ApplyIs
    rw [HAP.out, HDN.out]
    exact ⟨_, _, rfl, (HST.out.keep (fun b hb hj => r3 b (HJN1.out b hj).1) (Nat.le_of_eq r2.symm)).weak fun b _ hj => (HJN1.out b hj).2, (HB2.out.trans (HBR.out.mono HB2.out.size)).grown r4 (HB2.out.trans (HBR.out.mono HB2.out.size)).size (fun q e => by cases e; have := HXS.out; omega)⟩
  · have hcn : (CK != 0) = true := by simp [hc0]
    have HAP : Hid (applyM s ev = (noSx, CK)) := Lib.hid (by rw [applyM_no (by rw [HCKE.out]; exact hc0), HCKE.out])
    clear hc0
    go_wp2_with (refine wpList_rec rfl rfl (X + 2) zeroSt zeroSt rfl rfl HX4.out rfl (by kernel_rfl) (by kernel_rfl) ?_; intro w4 r1 r2 r3 r4)
    refine bodyPost_ret (results_ct rfl rfl r1 Try.underlying32 rfl (by kernel_rfl)) rfl ?_
    unfold ApplyIs
    rw [HAP.out]
    exact ⟨_, _, rfl, ⟨BQ.nil _ _, QRow.nil _ _⟩, HB2.out.grown r4 HB2.out.size (fun q e => by cases e; have := HXS.out; omega)⟩
-- TAIL
end Go.Proofs.Ytbpddcmehjgleaa
namespace Go.Proofs.Ytbpddcmehjgleaa
open Go.RowKit Go.Proofs
set_option linter.unusedVariables false
set_option linter.unusedSimpArgs false
set_option linter.unnecessarySimpa false

-- HEAD
set_option maxRecDepth 20000 in
set_option maxHeartbeats 12800000 in
theorem rapply14_k6 (d v : Value) (s : Sx) (k o m : Int) (a : Option Addr) (n c : Nat) (l : List UInt8) (T : ByteArray) (J : Nat → Prop) (w : World) (hJ : NewJ J w) (h : StA J w d v s) (hr : Row w a c l) (hn : l.length = n) (hT : T.size ≤ 9223372036854775807) (hb1 : s.data.length ≤ 100000) (hb2 : s.snaps.length ≤ 100000) (hkk : checkM s ⟨k, o, m, l, T.data.toList⟩ = 0 → k = 6) :
    Calls Try.prog 33 #[.agg #[d, v], .agg #[.int .i64 k, .int .i64 o, .int .i64 m, .slice a n c, .string T]] w fun e w' => ApplyIs J w s ⟨k, o, m, l, T.data.toList⟩ e w' := by
  obtain ⟨a1, c1, a2, c2, rfl, rfl, rd, rs⟩ := h.open
  obtain ⟨X2, X3, X4, B3⟩ := three_recsS w #[.slice a1 s.data.length c1, .slice a2 s.snaps.length c2] #[.int .i64 k, .int .i64 o, .int .i64 m, .slice a n c, .string T] zeroSt 32 46 32
  obtain ⟨wa, hwo⟩ : ∃ W, (((w.alloc (.cells #[.slice a1 s.data.length c1, .slice a2 s.snaps.length c2] 32)).alloc (.cells #[.int .i64 k, .int .i64 o, .int .i64 m, .slice a n c, .string T] 46)).alloc (.cells zeroSt 32)) = W := ⟨_, rfl⟩
  rw [hwo] at X2 X3 X4 B3
  have HCK := Lib.hid (fun W (hb : Below wa.heap.size wa W) => rcheck14_any (.slice a1 s.data.length c1) (.slice a2 s.snaps.length c2) s o m a n c l T J W k ((h.later B3).later hb) ((hr.later B3).later hb) hn hT)
  obtain ⟨nd, hnd⟩ : ∃ z, s.data.length = z := ⟨_, rfl⟩
  obtain ⟨ns, hns⟩ : ∃ z, s.snaps.length = z := ⟨_, rfl⟩
  rw [hnd] at X2 hwo HCK ⊢
  rw [hns] at X2 hwo rs HCK ⊢
  have HX2a := Lib.hid X2
  have HX3a := Lib.hid X3
  have HX4a := Lib.hid X4
  have HB3 := Lib.hid B3
  have HN1 : Hid (nd ≤ 1000000) := Lib.hid (by omega)
  have HN2 : Hid (ns ≤ 1000000) := Lib.hid (by omega)
  have HN3 : Hid (nd ≤ 100000 ∧ ns ≤ 100000) := Lib.hid ⟨by omega, by omega⟩
  have HND := Lib.hid hnd
  have HNS := Lib.hid hns
  have HRDa := Lib.hid (rd.later B3)
  have HRSa := Lib.hid (rs.later od_rel B3)
  have HEVa := Lib.hid (hr.later B3)
  have HN := Lib.hid hn
  have HJ := Lib.hid hJ
  obtain ⟨hl1, hl2⟩ := rs.lim
  obtain ⟨ev, hev⟩ : ∃ z, (⟨k, o, m, l, T.data.toList⟩ : Ev) = z := ⟨_, rfl⟩
  have HKK := Lib.hid hkk
  rw [hev] at HCK HKK ⊢
  have HEVE := Lib.hid hev
  have HROa := Lib.hid ((rs.weak od_rel (J' := oldJ J w) fun b hb hj => ⟨hj, hb⟩).later od_rel B3)
  obtain ⟨JO, hJO⟩ : ∃ JO, oldJ J w = JO := ⟨_, rfl⟩
  have HJO : Hid (∀ b, JO b → b < w.heap.size ∧ J b) := Lib.hid (by rw [← hJO]; exact fun b hb => ⟨hb.2, hb.1⟩)
  rw [hJO] at HROa
  have HWS := Lib.hid X4.lt
  clear X2 X3 X4 B3 rd rs h hr hn hnd hns hJ hb1 hb2 hev hJO hkk
  go_enter Try.func33, Try.ntmps33
  go_upto_region 1 with fail
  try rw [hwo]
  clear hwo
  obtain ⟨X, hX⟩ : ∃ X, w.heap.size = X := ⟨_, rfl⟩
  simp only [hX] at HX2a HX3a HX4a HJO HWS ⊢
  have HXS := Lib.hid hX
  clear hX
  obtain ⟨x0, x1⟩ := HX2a.out.c2
  obtain ⟨y0, y1, y2, y3, y4⟩ := HX3a.out.c5
  obtain ⟨CK, hCK⟩ : ∃ z, checkM s ev = z := ⟨_, rfl⟩
  rw [hCK] at HCK HKK
  have HCKE := Lib.hid hCK
  clear hCK
  go_wp2_with fail
  refine (HCK.out wa (Below.refl _ _)).mono ?_
  rintro e wo ⟨rfl, b2⟩
  have HB2 := Lib.hid (HB3.out.trans (b2.mono HB3.out.size))
  have HX2 := Lib.hid (HX2a.out.later b2)
  have HX3 := Lib.hid (HX3a.out.later b2)
  have HX4 := Lib.hid (HX4a.out.later b2)
  have HRD := Lib.hid (HRDa.out.later b2)
  have HRS := Lib.hid (HRSa.out.later od_rel b2)
  have HEV := Lib.hid (HEVa.out.later b2)
  have HRO := Lib.hid (HROa.out.later od_rel b2)
  have HWO : Hid (X + 2 < wo.heap.size) := Lib.hid (Nat.lt_of_lt_of_le HWS.out b2.size)
  clear b2 x0 x1 y0 y1 y2 y3 y4 HCK HX2a HX3a HX4a HRDa HRSa HEVa HROa HWS
  by_cases hc0 : CK = 0
  · have hcn : (CK != 0) = false := by simp [hc0]
    have HAP : Hid (applyM s ev = (doneM s ev, 0)) := Lib.hid (applyM_yes (by rw [HCKE.out]; exact hc0))
    have hc0' : CK = 0 := hc0
    clear hc0
    go_upto_region 4 with fail
    clear hcn
    have ub0 := Try.underlying32
    -- REG A4
    refine wp_region_ptabW (L := fun ph => match ph with | 0 => [ebV wo, cV (.pointer (some ⟨X, 0, none⟩)), cV (.slice a1 nd c1), obV wo s.data, eoV wo, cV (.pointer (some ⟨X, 1, none⟩)), cV (.slice a2 ns c2), ooV JO wo s.snaps, agV JO wo s, zsV wo, tV] | _ => [tV, cV (.pointer (some ⟨X, 0, none⟩)), cV (.slice a1 nd c1), tV, tV, cV (.pointer (some ⟨X, 1, none⟩)), cV (.slice a2 ns c2), tV, tV, rsV JO wo s, tV]) (fun _ wq => Below wo.heap.size wo wq) [10] [(0, 0), (0, 0), (0, 0), (0, 0), (0, 0), (0, 0), (0, 0), (0, 0), (0, 0), (0, 0), (0, 1)] [[], [(2, none)], [(18, some 1)], [(17, some 0), (19, some 2)], [], [(2, none)], [(22, some 5)], [(21, some 4), (23, some 6)], [(20, some 3), (24, some 7)], [], [(7, some 9), (25, some 8)]] 11 1 110 (by kernel_rfl) rfl rfl rfl (by kernel_rfl) (by kernel_rfl) (by decide) (by kernel_rfl) ?_ ?_ ?_ ?_ ?_
    · exact fun ph w1 w2 h hb => h.trans (hb.mono h.size)
    · exact (Below.refl _ _)
    · show ∀ i, i < 11 → _
      iterate 11 (refine fls ?_ ?_)
      · exact fl0
      · intro hne lo hi ph hran hp1 hp2 a w1 hJ hsz hs      -- 0: slot 17
        obtain ⟨rfl, rfl⟩ : 0 = lo ∧ 0 = hi := Prod.mk.inj (Option.some.inj hran)
        obtain rfl : ph = 0 := by omega
        exact op_run rfl rfl (v := .slice (some ⟨w1.heap.size, 0, none⟩) 0 0) (w' := w1.alloc (.cells #[] 5)) (by simp [execOp, Act.eval, go_sem]) ⟨w1.heap.size, rfl, (own_empty (W0 := w1) (w := w1) (Below.refl _ _)).back (show Below wo.heap.size wo w1 from hJ)⟩ ((Below.refl _ _).alloc (Nat.le_refl _) _)
      · intro hne lo hi ph hran hp1 hp2 a w1 hJ hsz hs      -- 1: slot 18
        obtain ⟨rfl, rfl⟩ : 0 = lo ∧ 0 = hi := Prod.mk.inj (Option.some.inj hran)
        obtain rfl : ph = 0 := by omega
        obtain ⟨h0, _⟩ := hs
        have h0 : a.tmps.getD 2 undef = .pointer (some ⟨X, 0, none⟩) := h0
        refine op_run rfl rfl (v := .pointer (some ⟨X, 0, none⟩)) (w' := w1) ?_ rfl (Below.refl _ _)
        simp [execOp, Act.eval, h0, go_sem]
      · intro hne lo hi ph hran hp1 hp2 a w1 hJ hsz hs      -- 2: slot 19
        obtain ⟨rfl, rfl⟩ : 0 = lo ∧ 0 = hi := Prod.mk.inj (Option.some.inj hran)
        obtain rfl : ph = 0 := by omega
        obtain ⟨h0, _⟩ := hs
        have h0 : a.tmps.getD 18 undef = .pointer (some ⟨X, 0, none⟩) := h0
        obtain ⟨x0, x1⟩ := (HX2.out.later (show Below wo.heap.size wo w1 from hJ)).c2
        refine op_run rfl rfl (v := .slice a1 nd c1) (w' := w1) ?_ rfl (Below.refl _ _)
        simp [execOp, Act.eval, h0, x0, go_sem]
      · intro hne lo hi ph hran hp1 hp2 a w1 hJ hsz hs      -- 3: slot 20
        obtain ⟨rfl, rfl⟩ : 0 = lo ∧ 0 = hi := Prod.mk.inj (Option.some.inj hran)
        obtain rfl : ph = 0 := by omega
        obtain ⟨h0, h1, _⟩ := hs
        have m0 : (ebV wo).p w1 (a.tmps.getD 17 undef) := h0
        have h1 : a.tmps.getD 19 undef = .slice a1 nd c1 := h1
        obtain ⟨g, e17, o17⟩ := m0
        rw [e17] at o17
        exact op_freshB rfl rfl (.tmp 17) (.tmp 19) rfl e17 o17 a1 c1 nd s.data (HRD.out.later (show Below wo.heap.size wo w1 from hJ)) HND.out h1 HN1.out (fun v' w' hv => hv)
      · intro hne lo hi ph hran hp1 hp2 a w1 hJ hsz hs      -- 4: slot 21
        obtain ⟨rfl, rfl⟩ : 0 = lo ∧ 0 = hi := Prod.mk.inj (Option.some.inj hran)
        obtain rfl : ph = 0 := by omega
        exact op_run rfl rfl (v := .slice (some ⟨w1.heap.size, 0, none⟩) 0 0) (w' := w1.alloc (.cells #[] 38)) (by simp [execOp, Act.eval, go_sem]) ⟨w1.heap.size, rfl, GOwn.empty (show Below wo.heap.size wo w1 from hJ) rfl⟩ ((Below.refl _ _).alloc (Nat.le_refl _) _)
      · intro hne lo hi ph hran hp1 hp2 a w1 hJ hsz hs      -- 5: slot 22
        obtain ⟨rfl, rfl⟩ : 0 = lo ∧ 0 = hi := Prod.mk.inj (Option.some.inj hran)
        obtain rfl : ph = 0 := by omega
        obtain ⟨h0, _⟩ := hs
        have h0 : a.tmps.getD 2 undef = .pointer (some ⟨X, 0, none⟩) := h0
        refine op_run rfl rfl (v := .pointer (some ⟨X, 1, none⟩)) (w' := w1) ?_ rfl (Below.refl _ _)
        simp [execOp, Act.eval, h0, go_sem]
      · intro hne lo hi ph hran hp1 hp2 a w1 hJ hsz hs      -- 6: slot 23
        obtain ⟨rfl, rfl⟩ : 0 = lo ∧ 0 = hi := Prod.mk.inj (Option.some.inj hran)
        obtain rfl : ph = 0 := by omega
        obtain ⟨h0, _⟩ := hs
        have h0 : a.tmps.getD 22 undef = .pointer (some ⟨X, 1, none⟩) := h0
        obtain ⟨x0, x1⟩ := (HX2.out.later (show Below wo.heap.size wo w1 from hJ)).c2
        refine op_run rfl rfl (v := .slice a2 ns c2) (w' := w1) ?_ rfl (Below.refl _ _)
        simp [execOp, Act.eval, h0, x1, go_sem]
      · intro hne lo hi ph hran hp1 hp2 a w1 hJ hsz hs      -- 7: slot 24
        obtain ⟨rfl, rfl⟩ : 0 = lo ∧ 0 = hi := Prod.mk.inj (Option.some.inj hran)
        obtain rfl : ph = 0 := by omega
        obtain ⟨h0, h1, _⟩ := hs
        have m0 : (eoV wo).p w1 (a.tmps.getD 21 undef) := h0
        have h1 : a.tmps.getD 23 undef = .slice a2 ns c2 := h1
        obtain ⟨g, e21, o21⟩ := m0
        rw [e21] at o21
        exact op_freshO rfl rfl (.tmp 21) (.tmp 23) rfl e21 o21 a2 c2 ns s.snaps (HRO.out.later od_rel (show Below wo.heap.size wo w1 from hJ)) h1 HN2.out (fun v' w' hv => hv)
      · intro hne lo hi ph hran hp1 hp2 a w1 hJ hsz hs      -- 8: slot 25
        obtain ⟨rfl, rfl⟩ : 0 = lo ∧ 0 = hi := Prod.mk.inj (Option.some.inj hran)
        obtain rfl : ph = 0 := by omega
        obtain ⟨h0, h1, _⟩ := hs
        have m0 : (obV wo s.data).p w1 (a.tmps.getD 20 undef) := h0
        have m1 : (ooV JO wo s.snaps).p w1 (a.tmps.getD 24 undef) := h1
        have md : Own wo w1 (a.tmps.getD 20 undef) s.data := m0
        have mv : OO JO wo w1 (a.tmps.getD 24 undef) s.snaps := m1
        obtain ⟨d1, hd1⟩ : ∃ z, a.tmps.getD 20 undef = z := ⟨_, rfl⟩
        obtain ⟨v1, hv1⟩ : ∃ z, a.tmps.getD 24 undef = z := ⟨_, rfl⟩
        rw [hd1] at md
        rw [hv1] at mv
        have gd1 : a.tmps[20]?.getD undef = d1 := (Array.getD_eq_getD_getElem? ..).symm.trans hd1
        have gv1 : a.tmps[24]?.getD undef = v1 := (Array.getD_eq_getD_getElem? ..).symm.trans hv1
        refine op_run rfl rfl (v := .agg #[d1, v1]) (w' := w1) ?_ ⟨d1, v1, rfl, md, mv⟩ (Below.refl _ _)
        obtain ⟨ad, cd, rfl, _⟩ := md.row
        obtain ⟨av, cv, rfl⟩ := mv.val odT_ok rfl
        simp [execOp, Act.eval, hd1, hv1, gd1, gv1, go_sem]
      · intro hne lo hi ph hran hp1 hp2 a w1 hJ hsz hs      -- 9: slot 7
        obtain ⟨rfl, rfl⟩ : 0 = lo ∧ 0 = hi := Prod.mk.inj (Option.some.inj hran)
        obtain rfl : ph = 0 := by omega
        refine op_run rfl rfl (v := .pointer (some ⟨w1.heap.size, 0, none⟩)) (w' := w1.alloc (.cells zeroSt 32)) ?_ ⟨w1.heap.size, rfl, RecAt.new w1 _ _, (show Below wo.heap.size wo w1 from hJ).size⟩ ((Below.refl _ _).alloc (Nat.le_refl _) _)
        simp [execOp, Act.eval, go_sem, ub0, zeroSt]
      · intro hne lo hi ph hran hp1 hp2 a w1 hJ hsz hs      -- 10: slot None
        exact absurd (by decide) hne
    · show ∀ ph, ph < 1 → _
      iterate 1 (refine fls ?_ ?_)
      · exact fl0
      · intro i hi a w1 hJ hsz hs      -- heavy 0: op 10 slot None
        obtain rfl : 10 = i := Option.some.inj hi
        obtain ⟨h0, h1, _⟩ := hs
        have m0 : (zsV wo).p w1 (a.tmps.getD 7 undef) := h0
        have m1 : (agV JO wo s).p w1 (a.tmps.getD 25 undef) := h1
        obtain ⟨PX, hvx, hX, hXs⟩ := (show ∃ g, a.tmps.getD 7 undef = .pointer (some ⟨g, 0, none⟩) ∧ RecAt w1 g zeroSt 32 ∧ wo.heap.size ≤ g from m0)
        obtain ⟨d1, v1, e25, md, mv⟩ := m1
        have hone : (#[d1, v1] : Array Value).all (·.oneCell') = true := by
          obtain ⟨ad, cd, rfl, _⟩ := md.row
          obtain ⟨av, cv, rfl⟩ := mv.val odT_ok rfl
          simp [Value.oneCell']
        refine hv_recW rfl rfl (x := PX) (p := .tmp 7) (v := .tmp 25) (cs := zeroSt) (vs := #[d1, v1]) rfl hvx e25 hX rfl (by kernel_rfl) hone (fun w' => trivial) ?_
        intro w' r1 r2 r3 r4
        have hb : Below wo.heap.size wo w' := (show Below wo.heap.size wo w1 from hJ).grown r4 (show Below wo.heap.size wo w1 from hJ).size (fun q e => by cases e; exact hXs)
        have o1 : Own wo w' d1 s.data := md.keptG r4 (.inr (md.neT hX (by decide))) (fun k e => by cases e; exact hXs)
        have o2 : OO JO wo w' v1 s.snaps := mv.keptG od_rel r4 hXs hX (by decide) (fun b hb => by have := (HJO.out b hb).1; have := HWO.out; omega)
        exact ⟨hb, CalmW.all ⟨.inr fun _ _ _ => trivial, .inr fun _ _ h => h, .inr fun _ _ h => h, .inr fun _ _ _ => trivial, .inr fun _ _ _ => trivial, .inr fun _ _ h => h, .inr fun _ _ h => h, .inr fun _ _ _ => trivial, .inr fun _ _ _ => trivial, .inr fun v hh _ => ⟨PX, d1, v1, (hh _ _ rfl rfl).trans hvx, r1, hXs, o1, o2⟩, .inl rfl, trivial⟩⟩
    intro f w1 hJ hv
    have e7 : (rsV JO wo s).p w1 (f 7) := hv 9 _ 7 rfl rfl
    have hbo : Below wo.heap.size wo w1 := hJ
    clear hv
    try simp only [Exit.then]
    simp only [putAll, List.foldl_cons, List.foldl_nil, Option.getD_some, Act.put, List.setIfInBounds_toArray, List.set_cons_succ, List.set_cons_zero]
    obtain ⟨PX, d1, v1, e7, r7, hXs, o1, o2⟩ := e7
    rw [e7]
    clear hJ e7
    -- END A4
    -- one's own blocks, and those of old
    obtain ⟨JN, hJN⟩ : ∃ JN : Nat → Prop, (fun b => JO b ∨ wo.heap.size ≤ b) = JN := ⟨_, rfl⟩
    have HJN1 : Hid (∀ b, JN b → b ≠ X + 2 ∧ J b) := Lib.hid (by
      subst hJN
      rintro b (hb | hb)
      · obtain ⟨h1, h2⟩ := HJO.out b hb
        exact ⟨by omega, h2⟩
      · refine ⟨by have := HWO.out; omega, HJ.out b (by have := HB2.out.size; omega)⟩)
    have HJN2 : Hid (NewJ JN wo) := Lib.hid (by subst hJN; exact fun b hb => .inr hb)
    have HJN3 : Hid (∀ b, JO b → JN b) := Lib.hid (by subst hJN; exact fun b hb => .inl hb)
    have HBO := Lib.hid hbo
    have HR7 := Lib.hid r7
    have HO1 := Lib.hid o1
    have HO2 := Lib.hid o2
    have HX4W := Lib.hid (HX4.out.later hbo)
    have HX3W := Lib.hid (HX3.out.later hbo)
    clear hJN hbo r7 o1 o2
    have hkind := right_kind (check_right (s := s) (e := ev) (by rw [HCKE.out]; exact hc0'))
    have hevk : ev.kind = k := by rw [← HEVE.out]
    rw [hevk] at hkind
    obtain ⟨y0, y1, y2, y3, y4⟩ := HX3W.out.c5
    obtain rfl : k = 6 := HKK.out hc0'
    have hrt := check_right (s := s) (e := ev) (by rw [HCKE.out]; exact hc0')
    have hen : ev.name = T.data.toList := by rw [← HEVE.out]
    obtain ⟨K, oK, hp1, hp2, hp3, -⟩ := name_some (s := s) hrt (.inl hevk) (by rw [HCKE.out]; exact hc0')
    have hKn : K < ns := by have := (List.getElem?_eq_some_iff.1 hp3).1; have := HNS.out; omega
    have HDN : Hid (doneM s ev = ⟨s.data, s.snaps.take K ++ s.snaps.drop (K + 1)⟩) := Lib.hid (by unfold doneM; rw [if_neg (by omega), if_neg (by omega), if_neg (by omega), if_neg (by omega), if_pos (by omega), hp1, Option.getD_some, List.eraseIdx_eq_take_drop_succ])
    have HK := Lib.hid hKn
    rw [hen] at hp2
    have HFD := Lib.hid (rfind14_any (.slice a1 nd c1) a2 ns c2 s.snaps T JO w1 rfl (HRO.out.later od_rel HBO.out) hT)
    rw [hp2] at HFD
    obtain ⟨av, cv, hav⟩ := HO2.out.val odT_ok HNS.out
    subst hav
    have HJM1 : Hid (∀ b, JO b → b ≠ PX) := Lib.hid (by
      intro b hb
      obtain ⟨h1, h2⟩ := HJO.out b hb
      have := HWO.out; omega)
    obtain ⟨hq1, hq2, hq3, hq4⟩ := HRO.out.cap
    unfold maxLen at hq3
    have HS1 : Hid (∀ W, (Instr.slice 30 (.slice a2 ns c2) none (some (.int .i64 (K : Nat))) none).run Try.prog W = .ok (.slice a2 K c2) W) := Lib.hid fun W => run_slG odT_ok rfl hq4 hq2 (by omega)
    have HS2 : Hid (∀ W, (Instr.slice 30 (.slice a2 ns c2) (some (.int .i64 ((K : Nat) + 1))) none none).run Try.prog W = .ok (.slice (cutA 2 a2 (K + 1) c2) (ns - (K + 1)) (c2 - (K + 1))) W) := Lib.hid fun W => by
      have := run_slG_end (W := W) (a := a2) odT_ok rfl hq2 (lo := K + 1) (by omega)
      simpa only [Int.natCast_add, Int.natCast_one, Int.cast_ofNat_Int] using this
    have HW1 : Hid (IntKind.i64.wrap ((K : Int) + 1) = (K : Int) + 1) := Lib.hid (IntWalk.i64_in _ (by omega))
    clear hevk hkind hrt hen hp1 hp2 hp3 hKn hq1 hq2 hq3 hq4
    obtain ⟨z0, z1⟩ := HR7.out.c2
    obtain ⟨x0, x1⟩ := (HX2.out.later HBO.out).c2
    go_wp2_with fail
    refine HFD.out.mono ?_
    rintro e w5 ⟨rfl, b5⟩
    replace HO1 := Lib.hid (HO1.out.later b5)
    replace HO2 := Lib.hid (HO2.out.later od_rel b5)
    replace HR7 := Lib.hid (HR7.out.later b5)
    replace HX4W := Lib.hid (HX4W.out.later b5)
    replace HBO := Lib.hid (HBO.out.trans (b5.mono HBO.out.size))
    clear y0 y1 y2 y3 y4 z0 z1 x0 x1 b5 HFD
    go_upto_region 20 with fail
    -- REG A20
    refine wp_region_ptab (L := fun ph => match ph with | 0 => [eoV wo, cV (.pointer (some ⟨X, 1, none⟩)), cV (.slice a2 ns c2), cV (.int .i64 (K : Nat)), cV (.slice a2 K c2), ooV JO wo (s.snaps.take K), cV (.pointer (some ⟨X, 1, none⟩)), cV (.slice a2 ns c2), cV (.int .i64 (K : Nat)), cV (.int .i64 ((K : Nat) + 1)), cV (.slice (cutA 2 a2 (K + 1) c2) (ns - (K + 1)) (c2 - (K + 1))), nV, cV (.pointer (some ⟨PX, 1, none⟩)), tV] | 1 => [tV, cV (.pointer (some ⟨X, 1, none⟩)), cV (.slice a2 ns c2), cV (.int .i64 (K : Nat)), cV (.slice a2 K c2), tV, cV (.pointer (some ⟨X, 1, none⟩)), cV (.slice a2 ns c2), cV (.int .i64 (K : Nat)), cV (.int .i64 ((K : Nat) + 1)), cV (.slice (cutA 2 a2 (K + 1) c2) (ns - (K + 1)) (c2 - (K + 1))), ooV JO wo (s.snaps.take K ++ s.snaps.drop (K + 1)), cV (.pointer (some ⟨PX, 1, none⟩)), tV] | _ => [tV, cV (.pointer (some ⟨X, 1, none⟩)), cV (.slice a2 ns c2), cV (.int .i64 (K : Nat)), cV (.slice a2 K c2), tV, cV (.pointer (some ⟨X, 1, none⟩)), cV (.slice a2 ns c2), cV (.int .i64 (K : Nat)), cV (.int .i64 ((K : Nat) + 1)), cV (.slice (cutA 2 a2 (K + 1) c2) (ns - (K + 1)) (c2 - (K + 1))), tV, cV (.pointer (some ⟨PX, 1, none⟩)), tV]) (jSn JO wo X PX d1 (.slice av ns cv) s.data s.snaps (s.snaps.take K ++ s.snaps.drop (K + 1))) [11, 13] [(0, 0), (0, 0), (0, 0), (0, 0), (0, 0), (0, 0), (0, 0), (0, 0), (0, 0), (0, 0), (0, 0), (0, 1), (0, 1), (1, 2)] [[], [(2, none)], [(83, some 1)], [(9, none)], [(84, some 2), (85, some 3)], [(82, some 0), (86, some 4)], [(2, none)], [(88, some 6)], [(9, none)], [(90, some 8)], [(89, some 7), (91, some 9)], [(87, some 5), (92, some 10)], [(7, none)], [(94, some 12), (93, some 11)]] 14 2 110 (by kernel_rfl) rfl rfl rfl (by kernel_rfl) (by kernel_rfl) (by decide) (by kernel_rfl) ?_ ?_ ?_ ?_ ?_
    · exact jSn_st JO wo X PX d1 (.slice av ns cv) s.data s.snaps _
    · exact ⟨HBO.out, HR7.out, HX4W.out, HO1.out, HO2.out⟩
    · show ∀ i, i < 14 → _
      iterate 14 (refine fls ?_ ?_)
      · exact fl0
      · intro hne lo hi ph hran hp1 hp2 a w1 hJ hsz hs      -- 0: slot 82
        obtain ⟨rfl, rfl⟩ : 0 = lo ∧ 0 = hi := Prod.mk.inj (Option.some.inj hran)
        obtain rfl : ph = 0 := by omega
        exact op_run rfl rfl (v := .slice (some ⟨w1.heap.size, 0, none⟩) 0 0) (w' := w1.alloc (.cells #[] 38)) (by simp [execOp, Act.eval, go_sem]) ⟨w1.heap.size, rfl, GOwn.empty (show Below wo.heap.size wo w1 from hJ.1) rfl⟩ ((Below.refl _ _).alloc (Nat.le_refl _) _)
      · intro hne lo hi ph hran hp1 hp2 a w1 hJ hsz hs      -- 1: slot 83
        obtain ⟨rfl, rfl⟩ : 0 = lo ∧ 0 = hi := Prod.mk.inj (Option.some.inj hran)
        obtain rfl : ph = 0 := by omega
        obtain ⟨h0, _⟩ := hs
        have h0 : a.tmps.getD 2 undef = .pointer (some ⟨X, 0, none⟩) := h0
        refine op_run rfl rfl (v := .pointer (some ⟨X, 1, none⟩)) (w' := w1) ?_ rfl (Below.refl _ _)
        simp [execOp, Act.eval, h0, go_sem]
      · intro hne lo hi ph hran hp1 hp2 a w1 hJ hsz hs      -- 2: slot 84
        obtain ⟨rfl, rfl⟩ : 0 = lo ∧ 0 = hi := Prod.mk.inj (Option.some.inj hran)
        obtain rfl : ph = 0 := by omega
        obtain ⟨h0, _⟩ := hs
        have h0 : a.tmps.getD 83 undef = .pointer (some ⟨X, 1, none⟩) := h0
        have k0 : w1.cell? ⟨X, 1, none⟩ = some (.slice a2 ns c2) := (HX2.out.later (show Below wo.heap.size wo w1 from hJ.1)).c2.2
        refine op_run rfl rfl (v := .slice a2 ns c2) (w' := w1) ?_ rfl (Below.refl _ _)
        simp [execOp, Act.eval, h0, k0, go_sem]
      · intro hne lo hi ph hran hp1 hp2 a w1 hJ hsz hs      -- 3: slot 85
        obtain ⟨rfl, rfl⟩ : 0 = lo ∧ 0 = hi := Prod.mk.inj (Option.some.inj hran)
        obtain rfl : ph = 0 := by omega
        obtain ⟨h0, _⟩ := hs
        have h0 : a.tmps.getD 9 undef = .int .i64 (K : Nat) := h0
        refine op_run rfl rfl (v := .int .i64 (K : Nat)) (w' := w1) ?_ rfl (Below.refl _ _)
        simp [execOp, Act.eval, h0, go_sem]
      · intro hne lo hi ph hran hp1 hp2 a w1 hJ hsz hs      -- 4: slot 86
        obtain ⟨rfl, rfl⟩ : 0 = lo ∧ 0 = hi := Prod.mk.inj (Option.some.inj hran)
        obtain rfl : ph = 0 := by omega
        obtain ⟨h0, h1, _⟩ := hs
        have h0 : a.tmps.getD 84 undef = .slice a2 ns c2 := h0
        have h1 : a.tmps.getD 85 undef = .int .i64 (K : Nat) := h1
        have k0 := HS1.out w1
        refine op_run rfl rfl (v := .slice a2 K c2) (w' := w1) ?_ rfl (Below.refl _ _)
        simp [execOp, Act.eval, h0, h1, k0, go_sem]
      · intro hne lo hi ph hran hp1 hp2 a w1 hJ hsz hs      -- 5: slot 87
        obtain ⟨rfl, rfl⟩ : 0 = lo ∧ 0 = hi := Prod.mk.inj (Option.some.inj hran)
        obtain rfl : ph = 0 := by omega
        obtain ⟨h0, h1, _⟩ := hs
        have m0 : (eoV wo).p w1 (a.tmps.getD 82 undef) := h0
        have h1 : a.tmps.getD 86 undef = .slice a2 K c2 := h1
        obtain ⟨g, e82, o82⟩ := m0
        rw [e82] at o82
        exact op_freshO rfl rfl (.tmp 82) (.tmp 86) rfl e82 o82 a2 c2 K (s.snaps.take K) ((HRO.out.later od_rel (show Below wo.heap.size wo w1 from hJ.1)).take (Nat.le_of_lt HK.out)) h1 (by have := HN2.out; have := HK.out; omega) (fun v' w' hv => hv)
      · intro hne lo hi ph hran hp1 hp2 a w1 hJ hsz hs      -- 6: slot 88
        obtain ⟨rfl, rfl⟩ : 0 = lo ∧ 0 = hi := Prod.mk.inj (Option.some.inj hran)
        obtain rfl : ph = 0 := by omega
        obtain ⟨h0, _⟩ := hs
        have h0 : a.tmps.getD 2 undef = .pointer (some ⟨X, 0, none⟩) := h0
        refine op_run rfl rfl (v := .pointer (some ⟨X, 1, none⟩)) (w' := w1) ?_ rfl (Below.refl _ _)
        simp [execOp, Act.eval, h0, go_sem]
      · intro hne lo hi ph hran hp1 hp2 a w1 hJ hsz hs      -- 7: slot 89
        obtain ⟨rfl, rfl⟩ : 0 = lo ∧ 0 = hi := Prod.mk.inj (Option.some.inj hran)
        obtain rfl : ph = 0 := by omega
        obtain ⟨h0, _⟩ := hs
        have h0 : a.tmps.getD 88 undef = .pointer (some ⟨X, 1, none⟩) := h0
        have k0 : w1.cell? ⟨X, 1, none⟩ = some (.slice a2 ns c2) := (HX2.out.later (show Below wo.heap.size wo w1 from hJ.1)).c2.2
        refine op_run rfl rfl (v := .slice a2 ns c2) (w' := w1) ?_ rfl (Below.refl _ _)
        simp [execOp, Act.eval, h0, k0, go_sem]
      · intro hne lo hi ph hran hp1 hp2 a w1 hJ hsz hs      -- 8: slot 90
        obtain ⟨rfl, rfl⟩ : 0 = lo ∧ 0 = hi := Prod.mk.inj (Option.some.inj hran)
        obtain rfl : ph = 0 := by omega
        obtain ⟨h0, _⟩ := hs
        have h0 : a.tmps.getD 9 undef = .int .i64 (K : Nat) := h0
        refine op_run rfl rfl (v := .int .i64 (K : Nat)) (w' := w1) ?_ rfl (Below.refl _ _)
        simp [execOp, Act.eval, h0, go_sem]
      · intro hne lo hi ph hran hp1 hp2 a w1 hJ hsz hs      -- 9: slot 91
        obtain ⟨rfl, rfl⟩ : 0 = lo ∧ 0 = hi := Prod.mk.inj (Option.some.inj hran)
        obtain rfl : ph = 0 := by omega
        obtain ⟨h0, _⟩ := hs
        have h0 : a.tmps.getD 90 undef = .int .i64 (K : Nat) := h0
        refine op_run rfl rfl (v := .int .i64 ((K : Nat) + 1)) (w' := w1) ?_ rfl (Below.refl _ _)
        simp [execOp, Act.eval, h0, HW1.out, go_sem]
      · intro hne lo hi ph hran hp1 hp2 a w1 hJ hsz hs      -- 10: slot 92
        obtain ⟨rfl, rfl⟩ : 0 = lo ∧ 0 = hi := Prod.mk.inj (Option.some.inj hran)
        obtain rfl : ph = 0 := by omega
        obtain ⟨h0, h1, _⟩ := hs
        have h0 : a.tmps.getD 89 undef = .slice a2 ns c2 := h0
        have h1 : a.tmps.getD 91 undef = .int .i64 ((K : Nat) + 1) := h1
        have k0 := HS2.out w1
        refine op_run rfl rfl (v := .slice (cutA 2 a2 (K + 1) c2) (ns - (K + 1)) (c2 - (K + 1))) (w' := w1) ?_ rfl (Below.refl _ _)
        simp [execOp, Act.eval, h0, h1, k0, go_sem]
      · intro hne lo hi ph hran hp1 hp2 a w1 hJ hsz hs      -- 11: slot 93
        exact absurd (by decide) hne
      · intro hne lo hi ph hran hp1 hp2 a w1 hJ hsz hs      -- 12: slot 94
        obtain ⟨rfl, rfl⟩ : 0 = lo ∧ 1 = hi := Prod.mk.inj (Option.some.inj hran)
        rcases (by omega : ph = 0 ∨ ph = 1) with rfl | rfl
        · obtain ⟨h0, _⟩ := hs
          have h0 : a.tmps.getD 7 undef = .pointer (some ⟨PX, 0, none⟩) := h0
          refine op_run rfl rfl (v := .pointer (some ⟨PX, 1, none⟩)) (w' := w1) ?_ rfl (Below.refl _ _)
          simp [execOp, Act.eval, h0, go_sem]
        · obtain ⟨h0, _⟩ := hs
          have h0 : a.tmps.getD 7 undef = .pointer (some ⟨PX, 0, none⟩) := h0
          refine op_run rfl rfl (v := .pointer (some ⟨PX, 1, none⟩)) (w' := w1) ?_ rfl (Below.refl _ _)
          simp [execOp, Act.eval, h0, go_sem]
      · intro hne lo hi ph hran hp1 hp2 a w1 hJ hsz hs      -- 13: slot None
        exact absurd (by decide) hne
    · show ∀ ph, ph < 2 → _
      iterate 2 (refine fls ?_ ?_)
      · exact fl0
      · intro i hi a w1 hJ hsz hs      -- heavy 0: op 11 slot 93
        obtain rfl : 11 = i := Option.some.inj hi
        obtain ⟨h0, h1, _⟩ := hs
        have m0 : (ooV JO wo (s.snaps.take K)).p w1 (a.tmps.getD 87 undef) := h0
        have h1 : a.tmps.getD 92 undef = .slice (cutA 2 a2 (K + 1) c2) (ns - (K + 1)) (c2 - (K + 1)) := h1
        have hJ0 : jSn JO wo X PX d1 (.slice av ns cv) s.data s.snaps (s.snaps.take K ++ s.snaps.drop (K + 1)) 0 w1 := hJ
        obtain ⟨q1, q2, q3, q4, q5⟩ := hJ0
        obtain ⟨u, hu⟩ : ∃ z, a.tmps.getD 87 undef = z := ⟨_, rfl⟩
        have m0' : OO JO wo w1 u (s.snaps.take K) := by rw [← hu]; exact m0
        have hq : QRow (lessJ JO u) 2 38 30 OdR w1 (.slice (cutA 2 a2 (K + 1) c2) (ns - (K + 1)) (c2 - (K + 1))) (s.snaps.drop (K + 1)) := ((HRO.out.later od_rel q1).drop HK.out).weak od_rel fun b _ hb => ⟨hb, fun e => by have := (m0'.ltB e.symm).1; have := (HJO.out b hb).1; have := HWO.out; omega⟩
        refine hv_nons odT_ok od_rel rfl rfl (.tmp 87) (.tmp 92) rfl u (s.snaps.take K) hu wo m0' (s.snaps.drop (K + 1)) _ _ _ h1 hq (by rw [List.length_take, List.length_drop]; have := HNS.out; have := HN2.out; have := HK.out; omega) ?_
        intro v' w' o1 g1
        exact ⟨o1, jSn.grown ⟨q1, q2, q3, q4⟩ m0' HWO.out g1, (Calm5.all (n := 0) ⟨.inr fun _ _ => trivial, .inr fun _ h => h, .inr fun _ h => h, .inr fun _ h => h, .inr fun _ h => h, .inr fun _ _ => trivial, .inr fun _ h => h, .inr fun _ h => h, .inr fun _ h => h, .inr fun _ h => h, .inr fun _ h => h, .inl rfl, .inr fun _ h => h, .inr fun _ _ => trivial, trivial⟩)⟩
      · intro i hi a w1 hJ hsz hs      -- heavy 1: op 13 slot None
        obtain rfl : 13 = i := Option.some.inj hi
        obtain ⟨h0, h1, _⟩ := hs
        have h0 : a.tmps.getD 94 undef = .pointer (some ⟨PX, 1, none⟩) := h0
        have g0 : a.tmps[94]?.getD undef = .pointer (some ⟨PX, 1, none⟩) := (Array.getD_eq_getD_getElem? ..).symm.trans h0
        have m1 : (ooV JO wo (s.snaps.take K ++ s.snaps.drop (K + 1))).p w1 (a.tmps.getD 93 undef) := h1
        have hJ1 : jSn JO wo X PX d1 (.slice av ns cv) s.data s.snaps (s.snaps.take K ++ s.snaps.drop (K + 1)) 1 w1 := hJ
        have m1' : OO JO wo w1 (a.tmps.getD 93 undef) (s.snaps.take K ++ s.snaps.drop (K + 1)) := m1
        obtain ⟨aE, cE, he⟩ := m1'.val odT_ok (rfl : (s.snaps.take K ++ s.snaps.drop (K + 1)).length = (s.snaps.take K ++ s.snaps.drop (K + 1)).length)
        have he2 : a.tmps[93]?.getD undef = .slice aE (s.snaps.take K ++ s.snaps.drop (K + 1)).length cE := by rw [← Array.getD_eq_getD_getElem?]; exact he
        rw [he] at m1'
        have cc : w1.cell? ⟨PX, 1, none⟩ = some (.slice av ns cv) := hJ1.2.1.cell rfl
        have cf := hJ1.2.1.frozen 1
        have hst := hJ1.stored m1' HWO.out hXs HJM1.out
        obtain ⟨LN, hLN⟩ : ∃ z, (s.snaps.take K ++ s.snaps.drop (K + 1)).length = z := ⟨_, rfl⟩
        rw [hLN] at he he2 hst
        refine hv_skip rfl rfl (w' := w1.setCell ⟨PX, 1, none⟩ (.slice aE LN cE)) ?_ trivial hst (Calm5.all (n := 0) ⟨.inr fun _ h => h, .inr fun _ h => h, .inr fun _ h => h, .inr fun _ h => h, .inr fun _ h => h, .inr fun _ _ => trivial, .inr fun _ h => h, .inr fun _ h => h, .inr fun _ h => h, .inr fun _ h => h, .inr fun _ h => h, .inr fun _ _ => trivial, .inr fun _ h => h, .inl rfl, trivial⟩)
        simp [execOp, Act.eval, h0, g0, he, he2, go_sem, cc, cf]
    intro f w1 hJ hv
    clear hv
    try simp only [Exit.then]
    simp only [putAll, List.foldl_cons, List.foldl_nil, Option.getD_some, Act.put, List.setIfInBounds_toArray, List.set_cons_succ, List.set_cons_zero]
    obtain ⟨a6, c6, hb6, r6, r62, o61, o62⟩ := (show jSn JO wo X PX d1 (.slice av ns cv) s.data s.snaps (s.snaps.take K ++ s.snaps.drop (K + 1)) 2 w1 from hJ)
    clear hJ
    -- END A20
    have HRP := Lib.hid r6
    have HXR := Lib.hid r62
    have HBR := Lib.hid hb6
    have HST := Lib.hid (fin_st o61 o62 HJN2.out HJN3.out)
    obtain ⟨ad, cd, hd1, -⟩ := o61.row
    subst hd1
    obtain ⟨LN, hLN⟩ : ∃ z, (s.snaps.take K ++ s.snaps.drop (K + 1)).length = z := ⟨_, rfl⟩
    rw [hLN] at HRP HST
    clear r6 r62 hb6 o61 o62 hLN
    obtain ⟨z0, z1⟩ := HRP.out.c2
    go_wp2_with (refine wpList_rec rfl rfl (X + 2) zeroSt #[.slice ad s.data.length cd, .slice a6 LN c6] rfl rfl HXR.out rfl (by kernel_rfl) (by simp [Value.oneCell']) ?_; intro w4 r1 r2 r3 r4)
    refine bodyPost_ret (results_ct rfl rfl r1 Try.underlying32 rfl (by kernel_rfl)) rfl ?_
    unfold ApplyIs
    rw [HAP.out, HDN.out]
    exact ⟨_, _, rfl, (HST.out.keep (fun b hb hj => r3 b (HJN1.out b hj).1) (Nat.le_of_eq r2.symm)).weak fun b _ hj => (HJN1.out b hj).2, (HB2.out.trans (HBR.out.mono HB2.out.size)).grown r4 (HB2.out.trans (HBR.out.mono HB2.out.size)).size (fun q e => by cases e; have := HXS.out; omega)⟩
  · have hcn : (CK != 0) = true := by simp [hc0]
    have HAP : Hid (applyM s ev = (noSx, CK)) := Lib.hid (by rw [applyM_no (by rw [HCKE.out]; exact hc0), HCKE.out])
    clear hc0
    go_wp2_with (refine wpList_rec rfl rfl (X + 2) zeroSt zeroSt rfl rfl HX4.out rfl (by kernel_rfl) (by kernel_rfl) ?_; intro w4 r1 r2 r3 r4)
    refine bodyPost_ret (results_ct rfl rfl r1 Try.underlying32 rfl (by kernel_rfl)) rfl ?_
    unfold ApplyIs
    rw [HAP.out]
    exact ⟨_, _, rfl, ⟨BQ.nil _ _, QRow.nil _ _⟩, HB2.out.grown r4 HB2.out.size (fun q e => by cases e; have := HXS.out; omega)⟩
-- TAIL
end Go.Proofs.Ytbpddcmehjgleaa
namespace Go.Proofs.Ytbpddcmehjgleaa
open Go.RowKit Go.Proofs
set_option linter.unusedVariables false
set_option linter.unusedSimpArgs false
set_option linter.unnecessarySimpa false

def jRo (JM : Nat → Prop) (wo : World) (X PX : Nat) (d v : Value) (l : List UInt8) (sn : List Od) : Nat → World → Prop
  | 0, w => Below wo.heap.size wo w ∧ RecAt w PX #[d, v] tSt ∧ RecAt w (X + 2) zeroSt tSt ∧ OO JM wo w v sn
  | _ + 1, w => ∃ d', Below wo.heap.size wo w ∧ RecAt w PX #[d', v] tSt ∧ RecAt w (X + 2) zeroSt tSt ∧ Own wo w d' l ∧ OO JM wo w v sn
theorem jRo_st (JM : Nat → Prop) (wo : World) (X PX : Nat) (d v : Value) (l : List UInt8) (sn : List Od) : ∀ ph w1 w2, jRo JM wo X PX d v l sn ph w1 → Below w1.heap.size w1 w2 → jRo JM wo X PX d v l sn ph w2
  | 0, w1, w2, h, hb => ⟨h.1.trans (hb.mono h.1.size), h.2.1.later hb, h.2.2.1.later hb, h.2.2.2.later od_rel hb⟩
  | _ + 1, w1, w2, h, hb => by
    obtain ⟨d', h1, h2, h3, h4, h5⟩ := h
    exact ⟨d', h1.trans (hb.mono h1.size), h2.later hb, h3.later hb, h4.later hb, h5.later od_rel hb⟩
theorem jRo.stored {JM : Nat → Prop} {wo : World} {X PX : Nat} {d v d' : Value} {l : List UInt8} {sn : List Od} {w : World} (h : jRo JM wo X PX d v l sn 0 w) (hd : Own wo w d' l) (hX : X + 2 < wo.heap.size) (hP : wo.heap.size ≤ PX) (hJ : ∀ b, JM b → b ≠ PX) : jRo JM wo X PX d v l sn 1 (w.setCell ⟨PX, 0, none⟩ d') := by
  obtain ⟨h1, h2, h3, h4⟩ := h
  have hg := grown_set w PX 0 d'
  exact ⟨d', h1.grown hg h1.size (fun k e => by cases e; exact hP), h2.set 0 _, h3.other (by omega) 0 _, hd.keptG hg (.inr (hd.neT h2 (by decide))) (fun k e => by cases e; exact hP), h4.keptG od_rel hg hP h2 (by decide) hJ⟩
-- HEAD
set_option maxRecDepth 20000 in
set_option maxHeartbeats 12800000 in
theorem rapply14_k7 (d v : Value) (s : Sx) (k o m : Int) (a : Option Addr) (n c : Nat) (l : List UInt8) (T : ByteArray) (J : Nat → Prop) (w : World) (hJ : NewJ J w) (h : StA J w d v s) (hr : Row w a c l) (hn : l.length = n) (hT : T.size ≤ 9223372036854775807) (hb1 : s.data.length ≤ 100000) (hb2 : s.snaps.length ≤ 100000) (hbs : ∀ q ∈ s.snaps, q.data.length ≤ 100000) (hkk : checkM s ⟨k, o, m, l, T.data.toList⟩ = 0 → k = 7) :
    Calls Try.prog 33 #[.agg #[d, v], .agg #[.int .i64 k, .int .i64 o, .int .i64 m, .slice a n c, .string T]] w fun e w' => ApplyIs J w s ⟨k, o, m, l, T.data.toList⟩ e w' := by
  obtain ⟨a1, c1, a2, c2, rfl, rfl, rd, rs⟩ := h.open
  obtain ⟨X2, X3, X4, B3⟩ := three_recsS w #[.slice a1 s.data.length c1, .slice a2 s.snaps.length c2] #[.int .i64 k, .int .i64 o, .int .i64 m, .slice a n c, .string T] zeroSt 32 46 32
  obtain ⟨wa, hwo⟩ : ∃ W, (((w.alloc (.cells #[.slice a1 s.data.length c1, .slice a2 s.snaps.length c2] 32)).alloc (.cells #[.int .i64 k, .int .i64 o, .int .i64 m, .slice a n c, .string T] 46)).alloc (.cells zeroSt 32)) = W := ⟨_, rfl⟩
  rw [hwo] at X2 X3 X4 B3
  have HCK := Lib.hid (fun W (hb : Below wa.heap.size wa W) => rcheck14_any (.slice a1 s.data.length c1) (.slice a2 s.snaps.length c2) s o m a n c l T J W k ((h.later B3).later hb) ((hr.later B3).later hb) hn hT)
  obtain ⟨nd, hnd⟩ : ∃ z, s.data.length = z := ⟨_, rfl⟩
  obtain ⟨ns, hns⟩ : ∃ z, s.snaps.length = z := ⟨_, rfl⟩
  rw [hnd] at X2 hwo HCK ⊢
  rw [hns] at X2 hwo rs HCK ⊢
  have HX2a := Lib.hid X2
  have HX3a := Lib.hid X3
  have HX4a := Lib.hid X4
  have HB3 := Lib.hid B3
  have HN1 : Hid (nd ≤ 1000000) := Lib.hid (by omega)
  have HN2 : Hid (ns ≤ 1000000) := Lib.hid (by omega)
  have HN3 : Hid (nd ≤ 100000 ∧ ns ≤ 100000) := Lib.hid ⟨by omega, by omega⟩
  have HND := Lib.hid hnd
  have HNS := Lib.hid hns
  have HRDa := Lib.hid (rd.later B3)
  have HRSa := Lib.hid (rs.later od_rel B3)
  have HEVa := Lib.hid (hr.later B3)
  have HN := Lib.hid hn
  have HJ := Lib.hid hJ
  obtain ⟨hl1, hl2⟩ := rs.lim
  obtain ⟨ev, hev⟩ : ∃ z, (⟨k, o, m, l, T.data.toList⟩ : Ev) = z := ⟨_, rfl⟩
  have HKK := Lib.hid hkk
  rw [hev] at HCK HKK ⊢
  have HEVE := Lib.hid hev
  have HROa := Lib.hid ((rs.weak od_rel (J' := oldJ J w) fun b hb hj => ⟨hj, hb⟩).later od_rel B3)
  obtain ⟨JO, hJO⟩ : ∃ JO, oldJ J w = JO := ⟨_, rfl⟩
  have HJO : Hid (∀ b, JO b → b < w.heap.size ∧ J b) := Lib.hid (by rw [← hJO]; exact fun b hb => ⟨hb.2, hb.1⟩)
  rw [hJO] at HROa
  have HWS := Lib.hid X4.lt
  clear X2 X3 X4 B3 rd rs h hr hn hnd hns hJ hb1 hb2 hev hJO hkk
  go_enter Try.func33, Try.ntmps33
  go_upto_region 1 with fail
  try rw [hwo]
  clear hwo
  obtain ⟨X, hX⟩ : ∃ X, w.heap.size = X := ⟨_, rfl⟩
  simp only [hX] at HX2a HX3a HX4a HJO HWS ⊢
  have HXS := Lib.hid hX
  clear hX
  obtain ⟨x0, x1⟩ := HX2a.out.c2
  obtain ⟨y0, y1, y2, y3, y4⟩ := HX3a.out.c5
  obtain ⟨CK, hCK⟩ : ∃ z, checkM s ev = z := ⟨_, rfl⟩
  rw [hCK] at HCK HKK
  have HCKE := Lib.hid hCK
  clear hCK
  go_wp2_with fail
  refine (HCK.out wa (Below.refl _ _)).mono ?_
  rintro e wo ⟨rfl, b2⟩
  have HB2 := Lib.hid (HB3.out.trans (b2.mono HB3.out.size))
  have HX2 := Lib.hid (HX2a.out.later b2)
  have HX3 := Lib.hid (HX3a.out.later b2)
  have HX4 := Lib.hid (HX4a.out.later b2)
  have HRD := Lib.hid (HRDa.out.later b2)
  have HRS := Lib.hid (HRSa.out.later od_rel b2)
  have HEV := Lib.hid (HEVa.out.later b2)
  have HRO := Lib.hid (HROa.out.later od_rel b2)
  have HWO : Hid (X + 2 < wo.heap.size) := Lib.hid (Nat.lt_of_lt_of_le HWS.out b2.size)
  clear b2 x0 x1 y0 y1 y2 y3 y4 HCK HX2a HX3a HX4a HRDa HRSa HEVa HROa HWS
  by_cases hc0 : CK = 0
  · have hcn : (CK != 0) = false := by simp [hc0]
    have HAP : Hid (applyM s ev = (doneM s ev, 0)) := Lib.hid (applyM_yes (by rw [HCKE.out]; exact hc0))
    have hc0' : CK = 0 := hc0
    clear hc0
    go_upto_region 4 with fail
    clear hcn
    have ub0 := Try.underlying32
    -- REG A4
    refine wp_region_ptabW (L := fun ph => match ph with | 0 => [ebV wo, cV (.pointer (some ⟨X, 0, none⟩)), cV (.slice a1 nd c1), obV wo s.data, eoV wo, cV (.pointer (some ⟨X, 1, none⟩)), cV (.slice a2 ns c2), ooV JO wo s.snaps, agV JO wo s, zsV wo, tV] | _ => [tV, cV (.pointer (some ⟨X, 0, none⟩)), cV (.slice a1 nd c1), tV, tV, cV (.pointer (some ⟨X, 1, none⟩)), cV (.slice a2 ns c2), tV, tV, rsV JO wo s, tV]) (fun _ wq => Below wo.heap.size wo wq) [10] [(0, 0), (0, 0), (0, 0), (0, 0), (0, 0), (0, 0), (0, 0), (0, 0), (0, 0), (0, 0), (0, 1)] [[], [(2, none)], [(18, some 1)], [(17, some 0), (19, some 2)], [], [(2, none)], [(22, some 5)], [(21, some 4), (23, some 6)], [(20, some 3), (24, some 7)], [], [(7, some 9), (25, some 8)]] 11 1 110 (by kernel_rfl) rfl rfl rfl (by kernel_rfl) (by kernel_rfl) (by decide) (by kernel_rfl) ?_ ?_ ?_ ?_ ?_
    · exact fun ph w1 w2 h hb => h.trans (hb.mono h.size)
    · exact (Below.refl _ _)
    · show ∀ i, i < 11 → _
      iterate 11 (refine fls ?_ ?_)
      · exact fl0
      · intro hne lo hi ph hran hp1 hp2 a w1 hJ hsz hs      -- 0: slot 17
        obtain ⟨rfl, rfl⟩ : 0 = lo ∧ 0 = hi := Prod.mk.inj (Option.some.inj hran)
        obtain rfl : ph = 0 := by omega
        exact op_run rfl rfl (v := .slice (some ⟨w1.heap.size, 0, none⟩) 0 0) (w' := w1.alloc (.cells #[] 5)) (by simp [execOp, Act.eval, go_sem]) ⟨w1.heap.size, rfl, (own_empty (W0 := w1) (w := w1) (Below.refl _ _)).back (show Below wo.heap.size wo w1 from hJ)⟩ ((Below.refl _ _).alloc (Nat.le_refl _) _)
      · intro hne lo hi ph hran hp1 hp2 a w1 hJ hsz hs      -- 1: slot 18
        obtain ⟨rfl, rfl⟩ : 0 = lo ∧ 0 = hi := Prod.mk.inj (Option.some.inj hran)
        obtain rfl : ph = 0 := by omega
        obtain ⟨h0, _⟩ := hs
        have h0 : a.tmps.getD 2 undef = .pointer (some ⟨X, 0, none⟩) := h0
        refine op_run rfl rfl (v := .pointer (some ⟨X, 0, none⟩)) (w' := w1) ?_ rfl (Below.refl _ _)
        simp [execOp, Act.eval, h0, go_sem]
      · intro hne lo hi ph hran hp1 hp2 a w1 hJ hsz hs      -- 2: slot 19
        obtain ⟨rfl, rfl⟩ : 0 = lo ∧ 0 = hi := Prod.mk.inj (Option.some.inj hran)
        obtain rfl : ph = 0 := by omega
        obtain ⟨h0, _⟩ := hs
        have h0 : a.tmps.getD 18 undef = .pointer (some ⟨X, 0, none⟩) := h0
        obtain ⟨x0, x1⟩ := (HX2.out.later (show Below wo.heap.size wo w1 from hJ)).c2
        refine op_run rfl rfl (v := .slice a1 nd c1) (w' := w1) ?_ rfl (Below.refl _ _)
        simp [execOp, Act.eval, h0, x0, go_sem]
      · intro hne lo hi ph hran hp1 hp2 a w1 hJ hsz hs      -- 3: slot 20
        obtain ⟨rfl, rfl⟩ : 0 = lo ∧ 0 = hi := Prod.mk.inj (Option.some.inj hran)
        obtain rfl : ph = 0 := by omega
        obtain ⟨h0, h1, _⟩ := hs
        have m0 : (ebV wo).p w1 (a.tmps.getD 17 undef) := h0
        have h1 : a.tmps.getD 19 undef = .slice a1 nd c1 := h1
        obtain ⟨g, e17, o17⟩ := m0
        rw [e17] at o17
        exact op_freshB rfl rfl (.tmp 17) (.tmp 19) rfl e17 o17 a1 c1 nd s.data (HRD.out.later (show Below wo.heap.size wo w1 from hJ)) HND.out h1 HN1.out (fun v' w' hv => hv)
      · intro hne lo hi ph hran hp1 hp2 a w1 hJ hsz hs      -- 4: slot 21
        obtain ⟨rfl, rfl⟩ : 0 = lo ∧ 0 = hi := Prod.mk.inj (Option.some.inj hran)
        obtain rfl : ph = 0 := by omega
        exact op_run rfl rfl (v := .slice (some ⟨w1.heap.size, 0, none⟩) 0 0) (w' := w1.alloc (.cells #[] 38)) (by simp [execOp, Act.eval, go_sem]) ⟨w1.heap.size, rfl, GOwn.empty (show Below wo.heap.size wo w1 from hJ) rfl⟩ ((Below.refl _ _).alloc (Nat.le_refl _) _)
      · intro hne lo hi ph hran hp1 hp2 a w1 hJ hsz hs      -- 5: slot 22
        obtain ⟨rfl, rfl⟩ : 0 = lo ∧ 0 = hi := Prod.mk.inj (Option.some.inj hran)
        obtain rfl : ph = 0 := by omega
        obtain ⟨h0, _⟩ := hs
        have h0 : a.tmps.getD 2 undef = .pointer (some ⟨X, 0, none⟩) := h0
        refine op_run rfl rfl (v := .pointer (some ⟨X, 1, none⟩)) (w' := w1) ?_ rfl (Below.refl _ _)
        simp [execOp, Act.eval, h0, go_sem]
      · intro hne lo hi ph hran hp1 hp2 a w1 hJ hsz hs      -- 6: slot 23
        obtain ⟨rfl, rfl⟩ : 0 = lo ∧ 0 = hi := Prod.mk.inj (Option.some.inj hran)
        obtain rfl : ph = 0 := by omega
        obtain ⟨h0, _⟩ := hs
        have h0 : a.tmps.getD 22 undef = .pointer (some ⟨X, 1, none⟩) := h0
        obtain ⟨x0, x1⟩ := (HX2.out.later (show Below wo.heap.size wo w1 from hJ)).c2
        refine op_run rfl rfl (v := .slice a2 ns c2) (w' := w1) ?_ rfl (Below.refl _ _)
        simp [execOp, Act.eval, h0, x1, go_sem]
      · intro hne lo hi ph hran hp1 hp2 a w1 hJ hsz hs      -- 7: slot 24
        obtain ⟨rfl, rfl⟩ : 0 = lo ∧ 0 = hi := Prod.mk.inj (Option.some.inj hran)
        obtain rfl : ph = 0 := by omega
        obtain ⟨h0, h1, _⟩ := hs
        have m0 : (eoV wo).p w1 (a.tmps.getD 21 undef) := h0
        have h1 : a.tmps.getD 23 undef = .slice a2 ns c2 := h1
        obtain ⟨g, e21, o21⟩ := m0
        rw [e21] at o21
        exact op_freshO rfl rfl (.tmp 21) (.tmp 23) rfl e21 o21 a2 c2 ns s.snaps (HRO.out.later od_rel (show Below wo.heap.size wo w1 from hJ)) h1 HN2.out (fun v' w' hv => hv)
      · intro hne lo hi ph hran hp1 hp2 a w1 hJ hsz hs      -- 8: slot 25
        obtain ⟨rfl, rfl⟩ : 0 = lo ∧ 0 = hi := Prod.mk.inj (Option.some.inj hran)
        obtain rfl : ph = 0 := by omega
        obtain ⟨h0, h1, _⟩ := hs
        have m0 : (obV wo s.data).p w1 (a.tmps.getD 20 undef) := h0
        have m1 : (ooV JO wo s.snaps).p w1 (a.tmps.getD 24 undef) := h1
        have md : Own wo w1 (a.tmps.getD 20 undef) s.data := m0
        have mv : OO JO wo w1 (a.tmps.getD 24 undef) s.snaps := m1
        obtain ⟨d1, hd1⟩ : ∃ z, a.tmps.getD 20 undef = z := ⟨_, rfl⟩
        obtain ⟨v1, hv1⟩ : ∃ z, a.tmps.getD 24 undef = z := ⟨_, rfl⟩
        rw [hd1] at md
        rw [hv1] at mv
        have gd1 : a.tmps[20]?.getD undef = d1 := (Array.getD_eq_getD_getElem? ..).symm.trans hd1
        have gv1 : a.tmps[24]?.getD undef = v1 := (Array.getD_eq_getD_getElem? ..).symm.trans hv1
        refine op_run rfl rfl (v := .agg #[d1, v1]) (w' := w1) ?_ ⟨d1, v1, rfl, md, mv⟩ (Below.refl _ _)
        obtain ⟨ad, cd, rfl, _⟩ := md.row
        obtain ⟨av, cv, rfl⟩ := mv.val odT_ok rfl
        simp [execOp, Act.eval, hd1, hv1, gd1, gv1, go_sem]
      · intro hne lo hi ph hran hp1 hp2 a w1 hJ hsz hs      -- 9: slot 7
        obtain ⟨rfl, rfl⟩ : 0 = lo ∧ 0 = hi := Prod.mk.inj (Option.some.inj hran)
        obtain rfl : ph = 0 := by omega
        refine op_run rfl rfl (v := .pointer (some ⟨w1.heap.size, 0, none⟩)) (w' := w1.alloc (.cells zeroSt 32)) ?_ ⟨w1.heap.size, rfl, RecAt.new w1 _ _, (show Below wo.heap.size wo w1 from hJ).size⟩ ((Below.refl _ _).alloc (Nat.le_refl _) _)
        simp [execOp, Act.eval, go_sem, ub0, zeroSt]
      · intro hne lo hi ph hran hp1 hp2 a w1 hJ hsz hs      -- 10: slot None
        exact absurd (by decide) hne
    · show ∀ ph, ph < 1 → _
      iterate 1 (refine fls ?_ ?_)
      · exact fl0
      · intro i hi a w1 hJ hsz hs      -- heavy 0: op 10 slot None
        obtain rfl : 10 = i := Option.some.inj hi
        obtain ⟨h0, h1, _⟩ := hs
        have m0 : (zsV wo).p w1 (a.tmps.getD 7 undef) := h0
        have m1 : (agV JO wo s).p w1 (a.tmps.getD 25 undef) := h1
        obtain ⟨PX, hvx, hX, hXs⟩ := (show ∃ g, a.tmps.getD 7 undef = .pointer (some ⟨g, 0, none⟩) ∧ RecAt w1 g zeroSt 32 ∧ wo.heap.size ≤ g from m0)
        obtain ⟨d1, v1, e25, md, mv⟩ := m1
        have hone : (#[d1, v1] : Array Value).all (·.oneCell') = true := by
          obtain ⟨ad, cd, rfl, _⟩ := md.row
          obtain ⟨av, cv, rfl⟩ := mv.val odT_ok rfl
          simp [Value.oneCell']
        refine hv_recW rfl rfl (x := PX) (p := .tmp 7) (v := .tmp 25) (cs := zeroSt) (vs := #[d1, v1]) rfl hvx e25 hX rfl (by kernel_rfl) hone (fun w' => trivial) ?_
        intro w' r1 r2 r3 r4
        have hb : Below wo.heap.size wo w' := (show Below wo.heap.size wo w1 from hJ).grown r4 (show Below wo.heap.size wo w1 from hJ).size (fun q e => by cases e; exact hXs)
        have o1 : Own wo w' d1 s.data := md.keptG r4 (.inr (md.neT hX (by decide))) (fun k e => by cases e; exact hXs)
        have o2 : OO JO wo w' v1 s.snaps := mv.keptG od_rel r4 hXs hX (by decide) (fun b hb => by have := (HJO.out b hb).1; have := HWO.out; omega)
        exact ⟨hb, CalmW.all ⟨.inr fun _ _ _ => trivial, .inr fun _ _ h => h, .inr fun _ _ h => h, .inr fun _ _ _ => trivial, .inr fun _ _ _ => trivial, .inr fun _ _ h => h, .inr fun _ _ h => h, .inr fun _ _ _ => trivial, .inr fun _ _ _ => trivial, .inr fun v hh _ => ⟨PX, d1, v1, (hh _ _ rfl rfl).trans hvx, r1, hXs, o1, o2⟩, .inl rfl, trivial⟩⟩
    intro f w1 hJ hv
    have e7 : (rsV JO wo s).p w1 (f 7) := hv 9 _ 7 rfl rfl
    have hbo : Below wo.heap.size wo w1 := hJ
    clear hv
    try simp only [Exit.then]
    simp only [putAll, List.foldl_cons, List.foldl_nil, Option.getD_some, Act.put, List.setIfInBounds_toArray, List.set_cons_succ, List.set_cons_zero]
    obtain ⟨PX, d1, v1, e7, r7, hXs, o1, o2⟩ := e7
    rw [e7]
    clear hJ e7
    -- END A4
    -- one's own blocks, and those of old
    obtain ⟨JN, hJN⟩ : ∃ JN : Nat → Prop, (fun b => JO b ∨ wo.heap.size ≤ b) = JN := ⟨_, rfl⟩
    have HJN1 : Hid (∀ b, JN b → b ≠ X + 2 ∧ J b) := Lib.hid (by
      subst hJN
      rintro b (hb | hb)
      · obtain ⟨h1, h2⟩ := HJO.out b hb
        exact ⟨by omega, h2⟩
      · refine ⟨by have := HWO.out; omega, HJ.out b (by have := HB2.out.size; omega)⟩)
    have HJN2 : Hid (NewJ JN wo) := Lib.hid (by subst hJN; exact fun b hb => .inr hb)
    have HJN3 : Hid (∀ b, JO b → JN b) := Lib.hid (by subst hJN; exact fun b hb => .inl hb)
    have HBO := Lib.hid hbo
    have HR7 := Lib.hid r7
    have HO1 := Lib.hid o1
    have HO2 := Lib.hid o2
    have HX4W := Lib.hid (HX4.out.later hbo)
    have HX3W := Lib.hid (HX3.out.later hbo)
    clear hJN hbo r7 o1 o2
    have hkind := right_kind (check_right (s := s) (e := ev) (by rw [HCKE.out]; exact hc0'))
    have hevk : ev.kind = k := by rw [← HEVE.out]
    rw [hevk] at hkind
    obtain ⟨y0, y1, y2, y3, y4⟩ := HX3W.out.c5
    obtain rfl : k = 7 := HKK.out hc0'
    have hrt := check_right (s := s) (e := ev) (by rw [HCKE.out]; exact hc0')
    have hen : ev.name = T.data.toList := by rw [← HEVE.out]
    obtain ⟨K, oK, hp1, hp2, hp3, hp4⟩ := name_some (s := s) hrt (.inr hevk) (by rw [HCKE.out]; exact hc0')
    have hKn : K < ns := by have := (List.getElem?_eq_some_iff.1 hp3).1; have := HNS.out; omega
    have HDN : Hid (doneM s ev = ⟨oK.data, s.snaps⟩) := Lib.hid (by unfold doneM; rw [if_neg (by omega), if_neg (by omega), if_neg (by omega), if_neg (by omega), if_neg (by omega), if_pos (by omega), hp4, Option.getD_some])
    have HK := Lib.hid hKn
    have HKI : Hid ((K : Int) < (ns : Int)) := Lib.hid (by omega)
    rw [hen] at hp2
    obtain ⟨b2, f2, SK, a3, c3, ha2, hk0, hk1, -, -, hrk⟩ := HRO.out.o2 hp3
    subst ha2
    have HFD := Lib.hid (fun W (hb : Below wo.heap.size wo W) => rfind14_any (.slice a1 nd c1) (some ⟨b2, f2, none⟩) ns c2 s.snaps T JO W rfl (HRO.out.later od_rel hb) hT)
    rw [hp2] at HFD
    obtain ⟨LD, hLD⟩ : ∃ z, oK.data.length = z := ⟨_, rfl⟩
    rw [hLD] at hk1
    have HLD := Lib.hid hLD
    have HRK := Lib.hid hrk
    have HL9 : Hid (LD ≤ 1000000) := Lib.hid (by have := hbs oK (List.mem_of_getElem? hp3); omega)
    have HP1 : Hid (∀ W, Below wo.heap.size wo W → W.cell? ⟨b2, f2 + K * 2 + 1, none⟩ = some (.slice a3 LD c3)) := Lib.hid fun W hb => by rw [hb.cell (World.block_lt_of_cell? _ _ hk1)]; exact hk1
    obtain ⟨av, cv, hav⟩ := HO2.out.val odT_ok HNS.out
    subst hav
    have HJM1 : Hid (∀ b, JO b → b ≠ PX) := Lib.hid (by
      intro b hb
      obtain ⟨h1, h2⟩ := HJO.out b hb
      have := HWO.out; omega)
    obtain ⟨ad1, cd1, hd1, -⟩ := HO1.out.row
    subst hd1
    clear hevk hkind hrt hen hp1 hp2 hp3 hp4 hKn hk0 hk1 hLD hrk hbs
    obtain ⟨z0, z1⟩ := HR7.out.c2
    obtain ⟨x0, x1⟩ := (HX2.out.later HBO.out).c2
    go_upto_region 22 with fail
    clear y0 y1 y2 y3 y4 z0 z1 x0 x1
    -- REG A22
    refine wp_region_ptab (L := fun ph => match ph with | 0 => [ebV wo, cV (.pointer (some ⟨X, 1, none⟩)), cV (.slice (some ⟨b2, f2, none⟩) ns c2), cV (.agg #[.slice a1 nd c1, .slice (some ⟨b2, f2, none⟩) ns c2]), cV (.pointer (some ⟨X + 1, 4, none⟩)), cV (.string T), cV (.int .i64 (K : Nat)), cV (.pointer (some ⟨b2, f2 + K * 2, none⟩)), cV (.pointer (some ⟨b2, f2 + K * 2 + 1, none⟩)), cV (.slice a3 LD c3), obV wo oK.data, cV (.pointer (some ⟨PX, 0, none⟩)), tV] | _ => [tV, cV (.pointer (some ⟨X, 1, none⟩)), cV (.slice (some ⟨b2, f2, none⟩) ns c2), cV (.agg #[.slice a1 nd c1, .slice (some ⟨b2, f2, none⟩) ns c2]), cV (.pointer (some ⟨X + 1, 4, none⟩)), cV (.string T), cV (.int .i64 (K : Nat)), cV (.pointer (some ⟨b2, f2 + K * 2, none⟩)), cV (.pointer (some ⟨b2, f2 + K * 2 + 1, none⟩)), cV (.slice a3 LD c3), tV, cV (.pointer (some ⟨PX, 0, none⟩)), tV]) (jRo JO wo X PX (.slice ad1 s.data.length cd1) (.slice av ns cv) oK.data s.snaps) [12] [(0, 0), (0, 0), (0, 0), (0, 0), (0, 0), (0, 0), (0, 0), (0, 0), (0, 0), (0, 0), (0, 0), (0, 0), (0, 1)] [[], [(2, none)], [(98, some 1)], [(2, none)], [(3, none)], [(101, some 4)], [(100, some 3), (102, some 5)], [(99, some 2), (103, some 6)], [(104, some 7)], [(105, some 8)], [(97, some 0), (106, some 9)], [(7, none)], [(108, some 11), (107, some 10)]] 13 1 110 (by kernel_rfl) rfl rfl rfl (by kernel_rfl) (by kernel_rfl) (by decide) (by kernel_rfl) ?_ ?_ ?_ ?_ ?_
    · exact jRo_st JO wo X PX (.slice ad1 s.data.length cd1) (.slice av ns cv) oK.data s.snaps
    · exact ⟨HBO.out, HR7.out, HX4W.out, HO2.out⟩
    · show ∀ i, i < 13 → _
      iterate 13 (refine fls ?_ ?_)
      · exact fl0
      · intro hne lo hi ph hran hp1 hp2 a w1 hJ hsz hs      -- 0: slot 97
        obtain ⟨rfl, rfl⟩ : 0 = lo ∧ 0 = hi := Prod.mk.inj (Option.some.inj hran)
        obtain rfl : ph = 0 := by omega
        exact op_run rfl rfl (v := .slice (some ⟨w1.heap.size, 0, none⟩) 0 0) (w' := w1.alloc (.cells #[] 5)) (by simp [execOp, Act.eval, go_sem]) ⟨w1.heap.size, rfl, (own_empty (W0 := w1) (w := w1) (Below.refl _ _)).back (show Below wo.heap.size wo w1 from hJ.1)⟩ ((Below.refl _ _).alloc (Nat.le_refl _) _)
      · intro hne lo hi ph hran hp1 hp2 a w1 hJ hsz hs      -- 1: slot 98
        obtain ⟨rfl, rfl⟩ : 0 = lo ∧ 0 = hi := Prod.mk.inj (Option.some.inj hran)
        obtain rfl : ph = 0 := by omega
        obtain ⟨h0, _⟩ := hs
        have h0 : a.tmps.getD 2 undef = .pointer (some ⟨X, 0, none⟩) := h0
        refine op_run rfl rfl (v := .pointer (some ⟨X, 1, none⟩)) (w' := w1) ?_ rfl (Below.refl _ _)
        simp [execOp, Act.eval, h0, go_sem]
      · intro hne lo hi ph hran hp1 hp2 a w1 hJ hsz hs      -- 2: slot 99
        obtain ⟨rfl, rfl⟩ : 0 = lo ∧ 0 = hi := Prod.mk.inj (Option.some.inj hran)
        obtain rfl : ph = 0 := by omega
        obtain ⟨h0, _⟩ := hs
        have h0 : a.tmps.getD 98 undef = .pointer (some ⟨X, 1, none⟩) := h0
        obtain ⟨k0, k1⟩ := (HX2.out.later (show Below wo.heap.size wo w1 from hJ.1)).c2
        refine op_run rfl rfl (v := .slice (some ⟨b2, f2, none⟩) ns c2) (w' := w1) ?_ rfl (Below.refl _ _)
        simp [execOp, Act.eval, h0, k1, go_sem]
      · intro hne lo hi ph hran hp1 hp2 a w1 hJ hsz hs      -- 3: slot 100
        obtain ⟨rfl, rfl⟩ : 0 = lo ∧ 0 = hi := Prod.mk.inj (Option.some.inj hran)
        obtain rfl : ph = 0 := by omega
        obtain ⟨h0, _⟩ := hs
        have h0 : a.tmps.getD 2 undef = .pointer (some ⟨X, 0, none⟩) := h0
        obtain ⟨k0, k1⟩ := (HX2.out.later (show Below wo.heap.size wo w1 from hJ.1)).c2
        refine op_run rfl rfl (v := .agg #[.slice a1 nd c1, .slice (some ⟨b2, f2, none⟩) ns c2]) (w' := w1) ?_ rfl (Below.refl _ _)
        simp [execOp, Act.eval, h0, k0, k1, go_sem]
      · intro hne lo hi ph hran hp1 hp2 a w1 hJ hsz hs      -- 4: slot 101
        obtain ⟨rfl, rfl⟩ : 0 = lo ∧ 0 = hi := Prod.mk.inj (Option.some.inj hran)
        obtain rfl : ph = 0 := by omega
        obtain ⟨h0, _⟩ := hs
        have h0 : a.tmps.getD 3 undef = .pointer (some ⟨X + 1, 0, none⟩) := h0
        refine op_run rfl rfl (v := .pointer (some ⟨X + 1, 4, none⟩)) (w' := w1) ?_ rfl (Below.refl _ _)
        simp [execOp, Act.eval, h0, go_sem]
      · intro hne lo hi ph hran hp1 hp2 a w1 hJ hsz hs      -- 5: slot 102
        obtain ⟨rfl, rfl⟩ : 0 = lo ∧ 0 = hi := Prod.mk.inj (Option.some.inj hran)
        obtain rfl : ph = 0 := by omega
        obtain ⟨h0, _⟩ := hs
        have h0 : a.tmps.getD 101 undef = .pointer (some ⟨X + 1, 4, none⟩) := h0
        have k0 : w1.cell? ⟨X + 1, 4, none⟩ = some (.string T) := (HX3.out.later (show Below wo.heap.size wo w1 from hJ.1)).c5.2.2.2.2
        refine op_run rfl rfl (v := .string T) (w' := w1) ?_ rfl (Below.refl _ _)
        simp [execOp, Act.eval, h0, k0, go_sem]
      · intro hne lo hi ph hran hp1 hp2 a w1 hJ hsz hs      -- 6: slot 103
        obtain ⟨rfl, rfl⟩ : 0 = lo ∧ 0 = hi := Prod.mk.inj (Option.some.inj hran)
        obtain rfl : ph = 0 := by omega
        obtain ⟨h0, h1, _⟩ := hs
        have h0 : a.tmps.getD 100 undef = .agg #[.slice a1 nd c1, .slice (some ⟨b2, f2, none⟩) ns c2] := h0
        have h1 : a.tmps.getD 102 undef = .string T := h1
        refine op_call rfl rfl (f := 51) (args := #[.agg #[.slice a1 nd c1, .slice (some ⟨b2, f2, none⟩) ns c2], .string T]) (by simp [execOp, Act.eval, resolve, h0, h1, go_sem]) ?_
        exact calls_c (HFD.out w1 (show Below wo.heap.size wo w1 from hJ.1))
      · intro hne lo hi ph hran hp1 hp2 a w1 hJ hsz hs      -- 7: slot 104
        obtain ⟨rfl, rfl⟩ : 0 = lo ∧ 0 = hi := Prod.mk.inj (Option.some.inj hran)
        obtain rfl : ph = 0 := by omega
        obtain ⟨h0, h1, _⟩ := hs
        have h0 : a.tmps.getD 99 undef = .slice (some ⟨b2, f2, none⟩) ns c2 := h0
        have h1 : a.tmps.getD 103 undef = .int .i64 (K : Nat) := h1
        have k1 := HKI.out
        refine op_run rfl rfl (v := .pointer (some ⟨b2, f2 + K * 2, none⟩)) (w' := w1) ?_ rfl (Below.refl _ _)
        simp [execOp, Act.eval, h0, h1, k1, HK.out, go_sem]
      · intro hne lo hi ph hran hp1 hp2 a w1 hJ hsz hs      -- 8: slot 105
        obtain ⟨rfl, rfl⟩ : 0 = lo ∧ 0 = hi := Prod.mk.inj (Option.some.inj hran)
        obtain rfl : ph = 0 := by omega
        obtain ⟨h0, _⟩ := hs
        have h0 : a.tmps.getD 104 undef = .pointer (some ⟨b2, f2 + K * 2, none⟩) := h0
        refine op_run rfl rfl (v := .pointer (some ⟨b2, f2 + K * 2 + 1, none⟩)) (w' := w1) ?_ rfl (Below.refl _ _)
        simp [execOp, Act.eval, h0, go_sem]
      · intro hne lo hi ph hran hp1 hp2 a w1 hJ hsz hs      -- 9: slot 106
        obtain ⟨rfl, rfl⟩ : 0 = lo ∧ 0 = hi := Prod.mk.inj (Option.some.inj hran)
        obtain rfl : ph = 0 := by omega
        obtain ⟨h0, _⟩ := hs
        have h0 : a.tmps.getD 105 undef = .pointer (some ⟨b2, f2 + K * 2 + 1, none⟩) := h0
        have k0 := HP1.out w1 (show Below wo.heap.size wo w1 from hJ.1)
        refine op_run rfl rfl (v := .slice a3 LD c3) (w' := w1) ?_ rfl (Below.refl _ _)
        simp [execOp, Act.eval, h0, k0, go_sem]
      · intro hne lo hi ph hran hp1 hp2 a w1 hJ hsz hs      -- 10: slot 107
        obtain ⟨rfl, rfl⟩ : 0 = lo ∧ 0 = hi := Prod.mk.inj (Option.some.inj hran)
        obtain rfl : ph = 0 := by omega
        obtain ⟨h0, h1, _⟩ := hs
        have m0 : (ebV wo).p w1 (a.tmps.getD 97 undef) := h0
        have h1 : a.tmps.getD 106 undef = .slice a3 LD c3 := h1
        obtain ⟨g, e97, o97⟩ := m0
        rw [e97] at o97
        exact op_freshB rfl rfl (.tmp 97) (.tmp 106) rfl e97 o97 a3 c3 LD oK.data (HRK.out.later (show Below wo.heap.size wo w1 from hJ.1)) HLD.out h1 HL9.out (fun v' w' hv => hv)
      · intro hne lo hi ph hran hp1 hp2 a w1 hJ hsz hs      -- 11: slot 108
        obtain ⟨rfl, rfl⟩ : 0 = lo ∧ 0 = hi := Prod.mk.inj (Option.some.inj hran)
        obtain rfl : ph = 0 := by omega
        obtain ⟨h0, _⟩ := hs
        have h0 : a.tmps.getD 7 undef = .pointer (some ⟨PX, 0, none⟩) := h0
        refine op_run rfl rfl (v := .pointer (some ⟨PX, 0, none⟩)) (w' := w1) ?_ rfl (Below.refl _ _)
        simp [execOp, Act.eval, h0, go_sem]
      · intro hne lo hi ph hran hp1 hp2 a w1 hJ hsz hs      -- 12: slot None
        exact absurd (by decide) hne
    · show ∀ ph, ph < 1 → _
      iterate 1 (refine fls ?_ ?_)
      · exact fl0
      · intro i hi a w1 hJ hsz hs      -- heavy 0: op 12 slot None
        obtain rfl : 12 = i := Option.some.inj hi
        obtain ⟨h0, h1, _⟩ := hs
        have h0 : a.tmps.getD 108 undef = .pointer (some ⟨PX, 0, none⟩) := h0
        have g0 : a.tmps[108]?.getD undef = .pointer (some ⟨PX, 0, none⟩) := (Array.getD_eq_getD_getElem? ..).symm.trans h0
        have m1 : (obV wo oK.data).p w1 (a.tmps.getD 107 undef) := h1
        have hJ0 : jRo JO wo X PX (.slice ad1 s.data.length cd1) (.slice av ns cv) oK.data s.snaps 0 w1 := hJ
        obtain ⟨u, hu⟩ : ∃ z, a.tmps.getD 107 undef = z := ⟨_, rfl⟩
        have m1' : Own wo w1 u oK.data := by rw [← hu]; exact m1
        obtain ⟨aE, cE, hue, -⟩ := m1'.row_n HLD.out
        rw [hue] at hu m1'
        have he2 : a.tmps[107]?.getD undef = .slice aE LD cE := by rw [← Array.getD_eq_getD_getElem?]; exact hu
        have cc : w1.cell? ⟨PX, 0, none⟩ = some (.slice ad1 s.data.length cd1) := hJ0.2.1.cell rfl
        have cf := hJ0.2.1.frozen 0
        have hst := hJ0.stored m1' HWO.out hXs HJM1.out
        refine hv_skip rfl rfl (w' := w1.setCell ⟨PX, 0, none⟩ (.slice aE LD cE)) ?_ trivial hst (Calm5.all (n := 0) ⟨.inr fun _ _ => trivial, .inr fun _ h => h, .inr fun _ h => h, .inr fun _ h => h, .inr fun _ h => h, .inr fun _ h => h, .inr fun _ h => h, .inr fun _ h => h, .inr fun _ h => h, .inr fun _ h => h, .inr fun _ _ => trivial, .inr fun _ h => h, .inl rfl, trivial⟩)
        simp [execOp, Act.eval, h0, g0, hu, he2, go_sem, cc, cf]
    intro f w1 hJ hv
    clear hv
    try simp only [Exit.then]
    simp only [putAll, List.foldl_cons, List.foldl_nil, Option.getD_some, Act.put, List.setIfInBounds_toArray, List.set_cons_succ, List.set_cons_zero]
    obtain ⟨v6, hb6, r6, r62, o61, o62⟩ := (show jRo JO wo X PX (.slice ad1 s.data.length cd1) (.slice av ns cv) oK.data s.snaps 1 w1 from hJ)
    clear hJ
    -- END A22
    have HRP := Lib.hid r6
    have HXR := Lib.hid r62
    have HBR := Lib.hid hb6
    have HST := Lib.hid (fin_st o61 o62 HJN2.out HJN3.out)
    obtain ⟨ad, cd, hd1, -⟩ := o61.row
    subst hd1
    clear r6 r62 hb6 o61 o62
    obtain ⟨z0, z1⟩ := HRP.out.c2
    go_wp2_with (refine wpList_rec rfl rfl (X + 2) zeroSt #[.slice ad oK.data.length cd, .slice av ns cv] rfl rfl HXR.out rfl (by kernel_rfl) (by simp [Value.oneCell']) ?_; intro w4 r1 r2 r3 r4)
    refine bodyPost_ret (results_ct rfl rfl r1 Try.underlying32 rfl (by kernel_rfl)) rfl ?_
    unfold ApplyIs
    rw [HAP.out, HDN.out]
    exact ⟨_, _, rfl, (HST.out.keep (fun b hb hj => r3 b (HJN1.out b hj).1) (Nat.le_of_eq r2.symm)).weak fun b _ hj => (HJN1.out b hj).2, (HB2.out.trans (HBR.out.mono HB2.out.size)).grown r4 (HB2.out.trans (HBR.out.mono HB2.out.size)).size (fun q e => by cases e; have := HXS.out; omega)⟩
  · have hcn : (CK != 0) = true := by simp [hc0]
    have HAP : Hid (applyM s ev = (noSx, CK)) := Lib.hid (by rw [applyM_no (by rw [HCKE.out]; exact hc0), HCKE.out])
    clear hc0
    go_wp2_with (refine wpList_rec rfl rfl (X + 2) zeroSt zeroSt rfl rfl HX4.out rfl (by kernel_rfl) (by kernel_rfl) ?_; intro w4 r1 r2 r3 r4)
    refine bodyPost_ret (results_ct rfl rfl r1 Try.underlying32 rfl (by kernel_rfl)) rfl ?_
    unfold ApplyIs
    rw [HAP.out]
    exact ⟨_, _, rfl, ⟨BQ.nil _ _, QRow.nil _ _⟩, HB2.out.grown r4 HB2.out.size (fun q e => by cases e; have := HXS.out; omega)⟩
-- TAIL
theorem rapply14_any (d v : Value) (s : Sx) (k o m : Int) (a : Option Addr) (n c : Nat) (l : List UInt8) (T : ByteArray) (J : Nat → Prop) (w : World) (hJ : NewJ J w) (h : StA J w d v s) (hr : Row w a c l) (hn : l.length = n) (hT : T.size ≤ 9223372036854775807) (hb1 : s.data.length ≤ 100000) (hb2 : s.snaps.length ≤ 100000) (hbs : ∀ q ∈ s.snaps, q.data.length ≤ 100000) :
    Calls Try.prog 33 #[.agg #[d, v], .agg #[.int .i64 k, .int .i64 o, .int .i64 m, .slice a n c, .string T]] w fun e w' => ApplyIs J w s ⟨k, o, m, l, T.data.toList⟩ e w' := by
  by_cases hc : checkM s ⟨k, o, m, l, T.data.toList⟩ = 0
  · have hk := right_kind (check_right hc)
    simp only at hk
    rcases (show (k = 2 ∨ k = 3 ∨ k = 4 ∨ k = 8) ∨ k = 1 ∨ k = 5 ∨ k = 6 ∨ k = 7 by omega) with h0 | h0 | h0 | h0 | h0
    · exact rapply14_part d v s k o m a n c l T J w hJ h hr hn hT hb1 hb2 fun _ => h0
    · exact rapply14_k1 d v s k o m a n c l T J w hJ h hr hn hT hb1 hb2 fun _ => h0
    · exact rapply14_k5 d v s k o m a n c l T J w hJ h hr hn hT hb1 hb2 fun _ => h0
    · exact rapply14_k6 d v s k o m a n c l T J w hJ h hr hn hT hb1 hb2 fun _ => h0
    · exact rapply14_k7 d v s k o m a n c l T J w hJ h hr hn hT hb1 hb2 hbs fun _ => h0
  · exact rapply14_part d v s k o m a n c l T J w hJ h hr hn hT hb1 hb2 fun e => absurd e hc
end Go.Proofs.Ytbpddcmehjgleaa
