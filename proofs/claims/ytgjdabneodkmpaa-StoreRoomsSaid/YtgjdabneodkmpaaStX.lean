/- A byte turned: 'Rot', of an object that is dry. -/
import Derived.Test.YtgjdabneodkmpaaStU
namespace Go.Proofs.Ytgjdabneodkmpaa
open Go.RowKit
set_option linter.unusedVariables false

theorem xor_u8 (a b : UInt8) : bits .xor .u8 (a.toNat : Int) (b.toNat : Int) = ((a ^^^ b).toNat : Int) := by
  show IntKind.u8.wrap (((BitVec.ofInt 8 (a.toNat : Int) ^^^ BitVec.ofInt 8 (b.toNat : Int)).toNat : Nat) : Int) = _
  have e (x : UInt8) : BitVec.ofInt 8 (x.toNat : Int) = x.toBitVec := by
    rw [BitVec.ofInt_natCast]; exact BitVec.eq_of_toNat_eq (by rw [BitVec.toNat_ofNat]; exact Nat.mod_eq_of_lt x.toNat_lt)
  rw [e, e, IntKind.wrap_u8]
  have : (a.toBitVec ^^^ b.toBitVec).toNat = (a ^^^ b).toNat := rfl
  rw [this]
  have := (a ^^^ b).toNat_lt
  omega
theorem ObAt.stored {w : World} {r : Nat → Role} {p : Bool} {k : K4} {x : Nat} {g n cap : Nat} {av : Value} {o : Ob} (h : ObAt w r p k x (.slice (some ⟨g, 0, none⟩) n cap) av o) (hn : o.bytes.length = n) (j : Nat) (u : UInt8) :
    ObAt (w.setCell ⟨g, j, none⟩ (B8 u)) r p k x (.slice (some ⟨g, 0, none⟩) n cap) av { o with bytes := o.bytes.set j u } ∧ Fr w (w.setCell ⟨g, j, none⟩ (B8 u)) r r (ofOb p k) := by
  subst hn
  have hrg : r g = .by p k := h.rrow g rfl
  have hf : Fr w (w.setCell ⟨g, j, none⟩ (B8 u)) r r (fun t => t = .by p k) := Fr.of_set (by exact hrg)
  have h1 := World.ownsRow.stored h.row j (B8 u)
  refine ⟨⟨h.role, ?_, ?_, fun g2 hg2 => by cases hg2; exact hrg, h.attrs.fr hf (by simp) (by simp)⟩, hf.mono fun t ht => .inr (.inl ht)⟩
  · rw [hf.block x h.lt (by rw [h.role]; simp)]; exact h.heap
  · unfold BRow
    rw [List.length_set, List.map_set]
    exact h1.1
/-- The object, changed in its place. -/
theorem Sto.refill {w w' : World} {b : Nat} {g : Gh} {S : St} (h : Sto w b g S) {k : K4} (hk : k.ok) {x : Nat} (hx : g.pm k = some x) {o o' : Ob} (ho : S.seen k = some o) (hf : Fr w w' g.r g.r (ofOb false k)) (h' : ObX w' g.r false k x o') : Sto w' b g { S with seen := upd S.seen k (some o') } := by
  have h1 := h.hole hk hf (Dom.later (w := w) h.dom hf.size)
  refine ⟨h1.role, h1.heap, h1.sm, h1.sr, h1.wm, h1.wr, fun k' hk' => ?_, h1.wet, h1.dom⟩
  by_cases e : k' = k
  · subst e
    show OpAt w' g.r false k' (g.pm k') (upd S.seen k' (some o') k')
    rw [upd_same, hx]; exact h'
  · show OpAt w' g.r false k' (g.pm k') (upd S.seen k (some o') k')
    rw [upd_other _ _ e]; exact h1.seen k' hk' e
def Ob.rot (o : Ob) (j : Nat) (x : UInt8) : Ob := { o with bytes := o.bytes.set j ((o.bytes.getD j 0) ^^^ x) }
def St.rot (S : St) (k : K4) (o : Ob) (at_ : Int) (x : UInt8) : Bool × St := if 0 ≤ at_ ∧ at_ < o.bytes.length then (true, { S with seen := upd S.seen k (some (o.rot at_.toNat x)) }) else (false, S)

set_option maxRecDepth 20000 in
set_option maxHeartbeats 1000000 in
theorem rot_any (w : World) (b : Nat) (g : Gh) (S : St) (h : Sto w b g S) (k : K4) (hk : k.ok) (o : Ob) (ho : S.seen k = some o) (hwhy : whyNot S k = 0) (hwet : S.wet k = .none) (at_ : Int) (hat : -9223372036854775808 ≤ at_ ∧ at_ ≤ 9223372036854775807) (z : UInt8) (hl : o.bytes.length ≤ 16384) :
    Calls Try.prog 26 #[.pointer (some ⟨b, 0, .none⟩), kv k, .int .i64 at_, .int .u8 z.toNat] w fun e w' =>
      e = .returned (.bool (S.rot k o at_ z).1) ∧ ∃ g', Sto w' b g' (S.rot k o at_ z).2 ∧ Fr w w' g.r g'.r ours := by
  obtain ⟨R, hR⟩ : ∃ R, S.rot k o at_ z = R := ⟨_, rfl⟩
  rw [hR]
  obtain ⟨w1, hwe⟩ : ∃ w1, w.alloc (.cells #[.int .i64 k.a, .int .i64 k.b, .int .i64 k.c, .int .i64 k.d] 27) = w1 := ⟨_, rfl⟩
  have hb1 : Below w.heap.size w w1 := by rw [← hwe]; exact (Below.refl _ _).alloc (Nat.le_refl _) _
  have hK : KeyAt w1 w.heap.size k := by rw [← hwe]; exact KeyAt.new w k
  obtain ⟨x, hx⟩ : ∃ x, g.pm k = some x := by
    have := h.seen k hk
    rw [ho] at this
    cases hp : g.pm k with
    | none => rw [hp] at this; exact this.elim
    | some x => exact ⟨x, rfl⟩
  have hpw : g.pw k = .none := by
    have := h.wet k hk
    rw [hwet] at this
    cases hp : g.pw k with
    | none => rfl
    | some x => rw [hp] at this; exact this.elim
  have HFD := Lib.hid (find_any w1 b g S (h.later hb1) k hk)
  rw [hx] at HFD
  have e : findR S k (some x) = .tuple #[.pointer (some ⟨x, 0, .none⟩), .int .i64 0] := by simp [findR, hwhy, ptrV]
  rw [e] at HFD
  obtain ⟨k0, k1, k2, k3⟩ := hK.cells
  have HJ : Hid (g.r w.heap.size = .junk) := Lib.hid (h.dom _ (Nat.le_refl _))
  have H := Lib.hid (h.later hb1)
  have HB := Lib.hid hb1
  have HK := Lib.hid hK
  have HX := Lib.hid hx
  have HO := Lib.hid ho
  have HPW := Lib.hid hpw
  have HRR := Lib.hid hR
  obtain ⟨m, hm⟩ : ∃ m, o.bytes.length = m := ⟨_, rfl⟩
  rw [hm] at hl
  have HM := Lib.hid hm
  obtain ⟨hat1, hat2⟩ := hat
  have hz8 := z.toNat_lt
  clear h hb1 hK e hwhy hwet hx ho hpw hR hm
  unfold kv at HFD ⊢
  go_enter Try.func26, Try.ntmps26
  go_upto_region 1 with fail
  clear hwe
  go_wp2_with fail
  refine HFD.out.mono ?_
  rintro e w2 ⟨rfl, hb2⟩
  clear HFD k0 k1 k2 k3
  have H2 := Lib.hid (H.out.later hb2)
  have HB2 := Lib.hid (HB.out.trans (hb2.mono HB.out.size))
  have HK2 := Lib.hid (HK.out.later hb2)
  have hox := H2.out.seen k hk
  rw [HX.out, HO.out] at hox
  obtain ⟨bv, av, hob⟩ := hox
  obtain ⟨aa, ca, rfl, hrow, _⟩ := hob.row.row
  have c0 : w2.cell? ⟨x, 0, .none⟩ = some (.slice aa m ca) := HM.out ▸ cell_of_block hob.heap rfl
  have HOB := Lib.hid hob
  clear H HB HK hb2 hrow hob
  by_cases hin : 0 ≤ at_ ∧ at_ < m
  · obtain ⟨j, rfl⟩ := Int.eq_ofNat_of_zero_le hin.1
    have hjm : j < m := by omega
    obtain ⟨gb, rfl⟩ : ∃ gb, aa = some ⟨gb, 0, .none⟩ := by
      rcases HOB.out.row.2 with ⟨e, e2⟩ | ⟨gb, cap, cur, e, _⟩
      · have := HM.out; omega
      · injection e with e1 e2 e3; exact ⟨gb, e1⟩
    obtain ⟨ub, hub⟩ : ∃ ub, o.bytes[j]? = some ub := ⟨_, List.getElem?_eq_getElem (by have := HM.out; omega)⟩
    have HOM : Hid (ObAt w2 g.r false k x (.slice (some ⟨gb, 0, none⟩) m ca) av o) := by have := HOB; rw [HM.out] at this; exact this
    have hmc : m ≤ ca := by have h1 := HOM.out.row.2; rcases h1 with ⟨e, _⟩ | ⟨_, _, _, e, _, _, h2, _⟩ <;> cases e; have := HM.out; omega
    have cb : w2.cell? ⟨gb, j, none⟩ = some (.int .u8 ub.toNat) := by
      have := World.ownsRow.cellAt HOB.out.row j (by have := HM.out; omega)
      rw [this, List.getElem?_map, hub]; rfl
    have fb : w2.frozen? ⟨gb, j, none⟩ = false := World.ownsRow.frozenAt HOB.out.row j
    have hx8 := xor_u8 ub z
    have hget : o.bytes.getD j 0 = ub := by simp [List.getD_eq_getElem?_getD, hub]
    have hst := HOM.out.stored HM.out j (ub ^^^ z)
    obtain ⟨wS, hwS⟩ : ∃ wS, w2.setCell ⟨gb, j, none⟩ (.int .u8 ((ub.toNat ^^^ z.toNat : Nat) : Int)) = wS := ⟨_, rfl⟩
    have hst : ObAt wS g.r false k x (.slice (some ⟨gb, 0, none⟩) m ca) av (o.rot j z) ∧ Fr w2 wS g.r g.r (ofOb false k) := by
      rw [← hwS]; unfold Ob.rot; rw [hget, ← UInt8.toNat_xor]; exact hst
    have HS := Lib.hid (H2.out.refill hk HX.out HO.out hst.2 ⟨_, _, hst.1⟩)
    have HFS := Lib.hid hst.2
    have HKS : Hid (KeyAt wS w.heap.size k) := Lib.hid (HK2.out.jk (Jk.of_fr hst.2 (ofOb_free _ _)) HJ.out)
    have HR2 : Hid (R = (true, { S with seen := upd S.seen k (some (o.rot j z)) })) := by
      refine Lib.hid ?_
      rw [← HRR.out]; unfold St.rot; rw [HM.out, if_pos hin]; rfl
    have hin1 := hin.1
    clear hst hget hub
    go_upto_region 5 with fail
    try rw [hwS]
    clear hwS cb fb hx8 c0
    have c3 : wS.cell? ⟨b, 3, .none⟩ = some g.wv := cell_of_block HS.out.heap rfl
    obtain ⟨k0, k1, k2, k3⟩ := HKS.out.cells
    have hlk := PMap.look (w := wS.drew) (HS.out.wm.keep fun _ _ _ => rfl) Try.underlying62 zero_ptr_pa hk
    rw [HPW.out] at hlk
    unfold kv at hlk
    simp only [ptrV, Option.map] at hlk
    go_region
    try simp only [Exit.then]
    clear hlk
    go_wp2_with fail
    go_ret
    refine ⟨by rw [HR2.out]; rfl, g, by rw [HR2.out]; exact HS.out.later ((Below.refl _ _).drew), ?_⟩
    exact ((Fr.of_below HB2.out g.r ours).trans (HFS.out.mono (by rintro t (rfl | rfl | rfl) <;> simp [ours]))).later ((Below.refl _ _).drew)
  · have HR2 : Hid (R = (false, S)) := by
      refine Lib.hid ?_
      rw [← HRR.out]; unfold St.rot; rw [HM.out, if_neg hin]
    by_cases hneg : at_ < 0
    · go_wp2_with fail
      go_ret
      exact ⟨by rw [HR2.out]; rfl, g, by rw [HR2.out]; exact H2.out, Fr.of_below HB2.out _ _⟩
    · have hge : (m : Int) ≤ at_ := by omega
      clear hin
      go_wp2_with fail
      go_ret
      exact ⟨by rw [HR2.out]; rfl, g, by rw [HR2.out]; exact H2.out, Fr.of_below HB2.out _ _⟩

set_option maxRecDepth 20000 in
theorem rot_none (w : World) (b : Nat) (g : Gh) (S : St) (h : Sto w b g S) (k : K4) (hk : k.ok) (ho : S.seen k = .none) (hwhy : whyNot S k = 0) (at_ : Int) (z : Int) :
    Calls Try.prog 26 #[.pointer (some ⟨b, 0, .none⟩), kv k, .int .i64 at_, .int .u8 z] w fun e w' =>
      e = .returned (.bool false) ∧ Below w.heap.size w w' := by
  obtain ⟨w1, hwe⟩ : ∃ w1, w.alloc (.cells #[.int .i64 k.a, .int .i64 k.b, .int .i64 k.c, .int .i64 k.d] 27) = w1 := ⟨_, rfl⟩
  have hb1 : Below w.heap.size w w1 := by rw [← hwe]; exact (Below.refl _ _).alloc (Nat.le_refl _) _
  have hK : KeyAt w1 w.heap.size k := by rw [← hwe]; exact KeyAt.new w k
  have hx : g.pm k = .none := by
    have := h.seen k hk
    rw [ho] at this
    cases hp : g.pm k with
    | none => rfl
    | some x => rw [hp] at this; exact this.elim
  have HFD := Lib.hid (find_any w1 b g S (h.later hb1) k hk)
  rw [hx] at HFD
  have e : findR S k .none = .tuple #[.pointer .none, .int .i64 4] := by simp [findR, hwhy, ptrV]
  rw [e] at HFD
  obtain ⟨k0, k1, k2, k3⟩ := hK.cells
  have HB := Lib.hid hb1
  clear h hb1 hK e hwhy hx ho
  unfold kv at HFD ⊢
  go_enter Try.func26, Try.ntmps26
  go_upto_region 1 with fail
  clear hwe
  go_wp2_with fail
  refine HFD.out.mono ?_
  rintro e w2 ⟨rfl, hb2⟩
  have HB2 := Lib.hid (HB.out.trans (hb2.mono HB.out.size))
  clear HFD k0 k1 k2 k3 hb2
  go_wp2_with fail
  go_ret
  exact ⟨rfl, HB2.out⟩

def rotL (l : List UInt8) (at_ : Int) (x : UInt8) : List UInt8 := if 0 ≤ at_ ∧ at_ < l.length then l.set at_.toNat (l.getD at_.toNat 0 ^^^ x) else l
theorem rotL_len (l : List UInt8) (at_ : Int) (x : UInt8) : (rotL l at_ x).length = l.length := by unfold rotL; split <;> simp
theorem rotL_rotL (l : List UInt8) (at_ : Int) (x : UInt8) : rotL (rotL l at_ x) at_ x = l := by
  by_cases h : 0 ≤ at_ ∧ at_ < l.length
  · have h1 : rotL l at_ x = l.set at_.toNat (l.getD at_.toNat 0 ^^^ x) := by unfold rotL; rw [if_pos h]
    rw [h1]
    unfold rotL
    rw [if_pos (by simpa using h)]
    have hj : at_.toNat < l.length := by omega
    apply List.ext_getElem?
    intro i
    simp only [List.getElem?_set, List.length_set, hj, if_true, List.getD_eq_getElem?_getD, Option.getD_some]
    by_cases e : at_.toNat = i
    · subst e
      simp [hj, UInt8.xor_assoc]
    · simp [e]
  · have h1 : rotL l at_ x = l := by unfold rotL; rw [if_neg h]
    rw [h1, h1]
theorem rotL_get (l : List UInt8) (at_ : Int) (x : UInt8) (i : Nat) (u : UInt8) (h : l[i]? = some u) : (rotL l at_ x)[i]? = some (if (i : Int) = at_ then u ^^^ x else u) := by
  have hi := (List.getElem?_eq_some_iff.1 h).1
  unfold rotL
  split
  · rename_i h2
    rw [List.getElem?_set]
    by_cases e : at_.toNat = i
    · have e2 : (i : Int) = at_ := by omega
      simp [e, e2, hi, List.getD_eq_getElem?_getD]
      exact (List.getElem?_eq_some_iff.1 h).2
    · have e2 : ¬ (i : Int) = at_ := by omega
      rw [if_neg e, if_neg e2]; exact h
  · rename_i h2
    have e2 : ¬ (i : Int) = at_ := by omega
    rw [if_neg e2]; exact h
theorem writeL_0 (l : List UInt8) : writeL [] 0 l = l := by
  by_cases h : l = []
  · subst h; rfl
  · rw [writeL_pos _ _ _ (List.length_pos_iff.2 h)]
    simp [padL]
theorem One.refill {S : St} {k : K4} {room : Int} {o o' : Ob} {n : Nat} (h : One S k room o n) (hw : S.wet k = .none) (h1 : o'.bytes.length = o.bytes.length) (h2 : o'.named = o.named) : One { S with seen := upd S.seen k (some o') } k room o' n := by
  have hg := h.good
  have hso : ∀ k' x, upd S.seen k (some o') k' = some x → ∃ y, S.seen k' = some y ∧ x.bytes.length = y.bytes.length ∧ x.named = y.named := fun k' x hx => by
    by_cases e : k' = k
    · subst e
      rw [upd_same] at hx
      cases hx
      exact ⟨o, h.seen, h1, h2⟩
    · rw [upd_other _ _ e] at hx
      exact ⟨x, hx, rfl, rfl⟩
  refine ⟨⟨⟨hg.wf.room, hg.wf.nd, fun k' => ?_, hg.wf.wks, fun k' x hx => ?_⟩, ?_, hg.wks, hg.sks, hg.deeds, hg.row, fun k' x hx => ?_, hg.legs, fun k' p hp hk' => ?_⟩, h.off, h.sks, upd_same _ _ _, h.room, h.ok, h.right⟩
  · show k' ∈ S.sks ↔ _
    rw [hg.wf.sks k']
    show _ ↔ (upd S.seen k (some o') k').isSome = true ∧ _
    by_cases e : k' = k
    · subst e; rw [upd_same, h.seen]; simp
    · rw [upd_other _ _ e]
  · obtain ⟨y, a1, a2, a3⟩ := hso k' x hx
    have := hg.wf.seen k' y a1
    rw [a2, a3]; exact this
  · show S.used = (S.sks.map fun k' => usedOf (upd S.seen k (some o') k')).sum
    rw [hg.acc]
    unfold St.acc
    rw [h.sks]
    simp [upd_same, h.seen, usedOf, h1, h2]
  · obtain ⟨y, a1, a2, a3⟩ := hso k' x hx
    have := hg.named k' y a1
    rw [a3]; exact this
  · have hp2 : S.wet k' = some p := hp
    by_cases e : k' = k
    · subst e; rw [hw] at hp2; cases hp2
    · show upd S.seen k (some o') k' = _
      rw [upd_other _ _ e]; exact hg.past k' p hp2 hk'
theorem One.rot {S : St} {k : K4} {room : Int} {o : Ob} {n : Nat} (h : One S k room o n) (hw : S.wet k = .none) (at_ : Int) (x : UInt8) :
    ∃ o', o'.bytes = rotL o.bytes at_ x ∧ One (S.rot k o at_ x).2 k room o' n ∧ (S.rot k o at_ x).2.wet = S.wet ∧ (S.rot k o at_ x).2.wks = S.wks ∧ (S.rot k o at_ x).1 = decide (0 ≤ at_ ∧ at_ < o.bytes.length) := by
  unfold St.rot rotL
  by_cases hc : 0 ≤ at_ ∧ at_ < o.bytes.length
  · simp only [if_pos hc]
    exact ⟨o.rot at_.toNat x, rfl, h.refill hw (by simp [Ob.rot]) rfl, trivial, trivial, by simp [hc]⟩
  · simp only [if_neg hc]
    exact ⟨o, rfl, h, trivial, trivial, by simp [hc]⟩
end Go.Proofs.Ytgjdabneodkmpaa
