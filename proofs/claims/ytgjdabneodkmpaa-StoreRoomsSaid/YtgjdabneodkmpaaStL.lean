/- A deed is made wet: 'log'. -/
import Derived.Test.YtgjdabneodkmpaaStD
import Derived.Deep.DeepCutAuto
namespace Go.Proofs.Ytgjdabneodkmpaa
open Go.RowKit
set_option linter.unusedVariables false

def Past.add (p : Past) (d : Deed) : Past := ⟨p.dry, p.deeds ++ [d]⟩
def St.opened (S : St) (k : K4) : St := match S.wet k with
  | some _ => S
  | .none => { S with wet := upd S.wet k (some ⟨S.seen k, []⟩), wks := S.wks ++ [k] }
def St.logged (S : St) (k : K4) (d : Deed) : St := { S.opened k with wet := upd (S.opened k).wet k (((S.opened k).wet k).map fun p => p.add d) }
def logOf (k : K4) (t : Role) : Prop := t = .st ∨ t = .wet ∨ t = .pa k ∨ t = .de k
/-- A deed in a block of its own. -/
def DeedAt (w : World) (x : Nat) (d : Deed) (dv : Value) : Prop := w.heap[x]? = some (.cells #[.int .i64 d.kind, .int .i64 d.at_, .string ⟨d.name.toArray⟩, dv] 69)
theorem DeedAt.cells {w : World} {x : Nat} {d : Deed} {dv : Value} (h : DeedAt w x d dv) : w.cell? ⟨x, 0, .none⟩ = some (.int .i64 d.kind) ∧ w.cell? ⟨x, 1, .none⟩ = some (.int .i64 d.at_) ∧ w.cell? ⟨x, 2, .none⟩ = some (.string ⟨d.name.toArray⟩) ∧ w.cell? ⟨x, 3, .none⟩ = some dv :=
  ⟨cell_of_block h rfl, cell_of_block h rfl, cell_of_block h rfl, cell_of_block h rfl⟩
/-- Nobody's blocks stay. -/
theorem KeyAt.fr {w w' : World} {r r' : Nat → Role} {Z : Role → Prop} {x : Nat} {k : K4} (h : KeyAt w x k) (hf : Fr w w' r r' Z) (hj : r x = .junk) (hz : ¬ Z .junk) : KeyAt w' x k := by
  unfold KeyAt at *
  rw [hf.block x (Array.getElem?_eq_some_iff.1 h).1 (by rw [hj]; exact hz)]; exact h
theorem DeedAt.fr {w w' : World} {r r' : Nat → Role} {Z : Role → Prop} {x : Nat} {d : Deed} {dv : Value} (h : DeedAt w x d dv) (hf : Fr w w' r r' Z) (hj : r x = .junk) (hz : ¬ Z .junk) : DeedAt w' x d dv := by
  unfold DeedAt at *
  rw [hf.block x (Array.getElem?_eq_some_iff.1 h).1 (by rw [hj]; exact hz)]; exact h
theorem logOf_junk (k : K4) : ¬ logOf k .junk := by rintro (h | h | h | h) <;> cases h

theorem PMap.shape {w : World} {mv : Value} {pm : K4 → Option Nat} {n : Nat} (h : PMap w mv pm n) : mv = .map .none ∨ ∃ m, mv = .map (some m) := by
  obtain ⟨D, _, h1 | ⟨b, h1, _⟩⟩ := h
  · exact .inl h1.1
  · exact .inr ⟨b, h1⟩

/-- The map of wet deeds, made. -/
theorem Sto.madeWet {w : World} {b : Nat} {g : Gh} {S : St} (h : Sto w b g S) (hn : g.wv = .map .none) (k : K4) :
    ∃ g1, Sto ((w.alloc (.map #[] 0)).setCell ⟨b, 3, .none⟩ (.map (some w.heap.size))) b g1 S ∧ g1.wv = .map (some w.heap.size) ∧ g1.pm = g.pm ∧ g1.sv = g.sv ∧ g1.pw = (fun k => .none) ∧
      Fr w ((w.alloc (.map #[] 0)).setCell ⟨b, 3, .none⟩ (.map (some w.heap.size))) g.r g1.r (logOf k) := by
  have hw := h.wm
  rw [hn] at hw
  obtain ⟨hp, h0⟩ := hw.nil_inv
  have hlt := h.lt
  have hba : Below w.heap.size w (w.alloc (.map #[] 0)) := (Below.refl _ _).alloc (Nat.le_refl _) _
  have hf1 : Fr w (w.alloc (.map #[] 0)) g.r (setRole g.r w.heap.size .wet) (fun t => t = .st) := (Fr.of_below hba g.r _).newrole fun b hlt => setRole_other _ _ (by omega)
  have hf2 : Fr (w.alloc (.map #[] 0)) ((w.alloc (.map #[] 0)).setCell ⟨b, 3, .none⟩ (.map (some w.heap.size))) (setRole g.r w.heap.size .wet) (setRole g.r w.heap.size .wet) (fun t => t = .st) :=
    Fr.of_set (by show setRole g.r w.heap.size .wet b = .st; rw [setRole_other _ _ (by omega)]; exact h.role)
  have hf := hf1.trans hf2
  have hheap : (w.alloc (.map #[] 0)).heap[b]? = some (.cells #[.int .i64 S.room, .bool S.off, g.sv, g.wv, .int .i64 S.used, .int .i64 S.deeds, .pointer .none] 65) := by
    rw [hba.block b hlt]; exact h.heap
  refine ⟨⟨setRole g.r w.heap.size .wet, g.sv, .map (some w.heap.size), g.pm, fun _ => .none⟩, ⟨?_, ?_, ?_, ?_, ?_, ?_, ?_, ?_, ?_⟩, rfl, rfl, rfl, rfl, hf.mono fun t ht => .inl ht⟩
  · show setRole g.r w.heap.size .wet b = .st
    rw [setRole_other _ _ (by omega)]; exact h.role
  · have := heap_setCell_same (w.alloc (.map #[] 0)) b 3 _ _ (.map (some w.heap.size)) hheap
    simpa using this
  · exact h.sm.keep fun x hx hlt2 => hf.block x hlt2 (by rw [h.sr x hx]; simp)
  · intro x hx
    have hx2 : x < w.heap.size := by
      have hsm := h.sm
      rw [hx] at hsm
      exact hsm.lt
    show setRole g.r w.heap.size .wet x = .seen
    rw [setRole_other _ _ (by omega)]; exact h.sr x hx
  · have := (PMap.made w).keep (w' := (w.alloc (.map #[] 0)).setCell ⟨b, 3, .none⟩ (.map (some w.heap.size))) fun x hx _ => by
      cases hx
      exact RowKit.Below.heap_setCell _ _ _ _ (by simp; omega)
    rw [h0]; exact this
  · intro x hx; cases hx; exact setRole_same _ _ _
  · exact fun k hk => (h.seen k hk).fr hf (by intro t ht; rcases ht with rfl | rfl | rfl <;> simp) (by simp)
  · intro k hk
    have := h.wet k hk
    rw [hp k hk] at this
    cases hS : S.wet k with
    | none => trivial
    | some p => rw [hS] at this; exact this.elim
  · exact Dom.set (h.dom |> fun hd => Dom.later (w := w) hd hf.size) _ (by simp)

/-! ### a key's past, laid and put into the map -/
def paV (w0 : World) (r : Nat → Role) (o : Option Ob) : SV :=
  ⟨fun w v => ∃ x y, v = .pointer (some ⟨x, 0, .none⟩) ∧ w0.heap.size ≤ x ∧ w.heap[x]? = some (.cells #[ptrV y, .slice .none 0 0] 100) ∧ cpOf w0 r w y o,
   fun w w' v ⟨x, y, h1, hN, h2, h3⟩ hb => ⟨x, y, h1, hN, by rw [hb.block x (Array.getElem?_eq_some_iff.1 h2).1]; exact h2, cpOf_st h3 hb⟩⟩
theorem Fr.roles {w w' : World} {r r1 r2 : Nat → Role} {Z : Role → Prop} (h : Fr w w' r r1 Z) (h2 : ∀ b, b < w.heap.size → r2 b = r b) : Fr w w' r r2 Z :=
  ⟨h.os, h.tape, h.output, h.size, h.block, h2⟩
/-- Behind the map's writing. -/
theorem Sto.openedOf {w0 w w' : World} {b : Nat} {g : Gh} {S : St} (h : Sto w0 b g S) {k : K4} (hk : k.ok) {m : Nat} (hm : g.wv = .map (some m)) (hn : g.pw k = .none) (hS : S.wet k = .none) (hb : Below w0.heap.size w0 w) {x : Nat} {y : Option Nat} (hN : w0.heap.size ≤ x)
    (hx : w.heap[x]? = some (.cells #[ptrV y, .slice .none 0 0] 100)) (hy : cpOf w0 g.r w y (S.seen k)) (hmap : PMap w' (.map (some m)) (upd g.pw k (some x)) (S.wks.length + 1)) (hg : w.grownBy w' (some m)) :
    ∃ g1, Sto w' b g1 (S.opened k) ∧ g1.wv = .map (some m) ∧ g1.pm = g.pm ∧ g1.sv = g.sv ∧ g1.pw k = some x ∧ Fr w0 w' g.r g1.r (logOf k) := by
  have hxlt := (Array.getElem?_eq_some_iff.1 hx).1
  obtain ⟨hoc, hdc⟩ := OpAt.of_copy (p := true) (k := k) hy hb h.dom
  have hmlt : m < w0.heap.size := by have := h.wm; rw [hm] at this; exact this.lt
  have hmr : g.r m = .wet := h.wr m hm
  obtain ⟨r1, hr1⟩ : ∃ r1, cpRole g.r true k w w0.heap.size y = r1 := ⟨_, rfl⟩
  have hos := OpAt.of_copy_set (p := true) (k := k) hy hb h.dom hx hN (.pa k)
  rw [hr1] at hoc hdc hos
  have hold : ∀ z, z < w0.heap.size → r1 z = g.r z := fun z hz => by rw [← hr1]; exact cpRole_old _ _ _ _ _ hz
  have hf0 : Fr w0 w g.r (setRole r1 x (.pa k)) (fun _ => False) := (Fr.of_below hb g.r _).roles fun z hz => by rw [setRole_other _ _ (by omega)]; exact hold z hz
  have hmx : (setRole r1 x (.pa k)) m = .wet := by rw [setRole_other _ _ (by omega), hold m hmlt]; exact hmr
  have hf1 : Fr w w' (setRole r1 x (.pa k)) (setRole r1 x (.pa k)) (fun t => t = .wet) := Fr.of_grown hg (fun z hz => by cases hz; exact hmx)
  have hf : Fr w0 w' g.r (setRole r1 x (.pa k)) (fun t => t = .wet) := (hf0.mono (fun _ h => h.elim)).trans hf1
  have hopn : S.opened k = { S with wet := upd S.wet k (some ⟨S.seen k, []⟩), wks := S.wks ++ [k] } := by unfold St.opened; rw [hS]
  rw [hopn]
  refine ⟨⟨setRole r1 x (.pa k), g.sv, .map (some m), g.pm, upd g.pw k (some x)⟩, ⟨?_, ?_, ?_, ?_, ?_, ?_, ?_, ?_, ?_⟩, rfl, rfl, rfl, upd_same _ _ _, hf.mono fun t ht => .inr (.inl ht)⟩
  · show setRole r1 x (.pa k) b = .st
    have := h.lt
    rw [setRole_other _ _ (by omega), hold b h.lt]; exact h.role
  · rw [hf.block b h.lt (by rw [h.role]; simp), ← hm]; exact h.heap
  · exact h.sm.keep fun z hz hlt2 => hf.block z hlt2 (by rw [h.sr z hz]; simp)
  · intro z hz
    have hz2 : z < w0.heap.size := by
      have hsm := h.sm
      rw [hz] at hsm
      exact hsm.lt
    show setRole r1 x (.pa k) z = .seen
    rw [setRole_other _ _ (by omega), hold z hz2]; exact h.sr z hz
  · simpa using hmap
  · intro z hz; cases hz; exact hmx
  · exact fun k2 hk2 => (h.seen k2 hk2).fr hf (by intro t ht; rcases ht with rfl | rfl | rfl <;> simp) (by simp)
  · intro k2 hk2
    by_cases e : k2 = k
    · subst e
      show PpAt w' (setRole r1 x (.pa k2)) k2 (upd g.pw k2 (some x) k2) (upd S.wet k2 (some ⟨S.seen k2, []⟩) k2)
      rw [upd_same, upd_same]
      refine ⟨y, .slice .none 0 0, ⟨setRole_same _ _ _, ?_, ?_, ⟨[], rfl, World.ownsRow_nil _ _ _ _, fun i d v h1 => by simp at h1⟩, fun z hz => (nomatch hz)⟩⟩
      · rw [hf1.block x hxlt (by rw [setRole_same]; simp)]; exact hx
      · exact hos.fr hf1 (by intro t ht; rcases ht with rfl | rfl | rfl <;> simp) (by simp)
    · show PpAt w' (setRole r1 x (.pa k)) k2 (upd g.pw k (some x) k2) (upd S.wet k (some ⟨S.seen k, []⟩) k2)
      rw [upd_other _ _ e, upd_other _ _ e]
      exact (h.wet k2 hk2).fr hf (by rintro t (rfl | rfl | rfl | rfl | rfl) <;> simp) (by simp)
  · exact Dom.set (hdc.later hf1.size) _ (Nat.lt_of_lt_of_le hxlt hf1.size)

/-! ### one deed more -/
theorem info_deed : (Try.prog.info? 69).map (fun i => (i.zero, i.size, i.bytes)) = some (some (.agg #[.int .i64 0, .int .i64 0, .string ByteArray.empty, .slice .none 0 0]), 4, 56) := by kernel_rfl
def adV (w0 : World) (r : Nat → Role) (k : K4) (ds : List Deed) : SV :=
  ⟨fun w v => ∃ r', Fr w0 w r r' (fun t => t = .de k) ∧ Dom w r' ∧ DRow w r' v ds ∧ (∀ g, v.ownBlock = some g → r' g = .de k) ∧ ∃ aa nn cc, v = .slice aa nn cc,
   fun w w' v ⟨r', h1, h2, h3, h4, h5⟩ hb => ⟨r', h1.later hb, h2.later hb.size, h3.fr (Fr.of_below hb r' (fun _ => False)) (fun _ _ h => h) (fun h => h), h4, h5⟩⟩
/-- A row of one deed, just laid. -/
def ndV (d : Deed) (dv : Value) : SV :=
  ⟨fun w v => ∃ z, v = .slice (some ⟨z, 0, .none⟩) 1 1 ∧ w.heap[z]? = some (.cells #[.int .i64 d.kind, .int .i64 d.at_, .string ⟨d.name.toArray⟩, dv] 69),
   fun w w' v ⟨z, h1, h2⟩ hb => ⟨z, h1, by rw [hb.block z (Array.getElem?_eq_some_iff.1 h2).1]; exact h2⟩⟩
theorem adV_run {w w1 : World} {r : Nat → Role} {k : K4} {x : Nat} {dp : Option Nat} {dr dv : Value} {p : Past} {d : Deed} {nv : Value} (h : PaAt w r k x dp dr p) (hd : Dom w r) (hs : Shr w r dv d.data) (hb : Below w.heap.size w w1) (hl : p.deeds.length ≤ 1000000) (m : (ndV d dv).p w1 nv) (hone : dv.oneCell' = true) {ty : TypeId} :
    ∃ v' w', (Builtin.append_ #[98, 98] ty #[dr, nv]).run Try.prog w1 = .ok v' w' ∧ (adV w r k (p.deeds ++ [d])).p w' v' := by
  obtain ⟨i0, hi, hz0, hz1, hz2⟩ := info_parts info_deed
  obtain ⟨vs, hvl, ho, hsh⟩ := h.row
  obtain ⟨z, rfl, hz⟩ := m
  have hlt : ∀ g, dr.ownBlock = some g → g < w.heap.size := fun g hg => (World.ownsRow.lt ho g hg).2
  have ho1 : w1.ownsRow 0 69 4 dr p.deeds.length ((p.deeds.zip vs).flatMap fun x => dcells x.1 x.2) := by
    refine ⟨ho.1, ?_⟩
    rcases ho.2 with hv | ⟨g, cap, cur, hv, hb2, hg, rest⟩
    · exact .inl hv
    · exact .inr ⟨g, cap, cur, hv, hb2, by rw [hb.block g (Array.getElem?_eq_some_iff.1 hg).1]; exact hg, rest⟩
  obtain ⟨v', w', hr, hown, hg, hnil, hat⟩ := run_append_own_at (P := Try.prog) w1 0 98 ty 69 i0 _ 4 56 Try.underlying98 hi hz0 hz1 hz2 rfl (by decide) dr p.deeds.length _ ho1 ⟨z, 0, .none⟩ 1 1 (dcells d dv) rfl
    (fun j u hj => by
      have e : (⟨z, 0, .none⟩ : Addr).add j = ⟨z, j, .none⟩ := by unfold Addr.add; split <;> simp_all
      rw [e]
      exact cell_of_block hz (by simpa [dcells] using hj))
    (fun u hu => by
      simp only [dcells, List.mem_cons, List.not_mem_nil, or_false] at hu
      rcases hu with rfl | rfl | rfl | rfl
      · rfl
      · rfl
      · rfl
      · exact hone) (by unfold maxLen; omega) (by omega) (Nat.zero_le _)
  refine ⟨v', w', hr, ?_⟩
  have hf1 : Fr w w1 r r (fun t => t = .de k) := Fr.of_below hb r _
  have hf2 : Fr w1 w' r r (fun t => t = .de k) := Fr.of_grown hg (fun b hb2 => h.rrow b hb2)
  have hf := hf1.trans hf2
  have hF : Fr w w' r (fun y => if y < w.heap.size then r y else if v'.ownBlock = some y then .de k else r y) (fun t => t = .de k) := hf.roles fun b hb2 => by simp [hb2]
  refine ⟨_, hF, fun y hy => ?_, ⟨vs ++ [dv], by simp [hvl], ?_, fun i d' v hd1 hv1 => ?_⟩, fun g hgo => ?_, ?_⟩
  · have h1 : ¬ y < w.heap.size := by have := hf.size; omega
    have h2 : v'.ownBlock ≠ some y := fun e => by have := (World.ownsRow.lt hown y e).2; omega
    simp only [h1, h2, if_false]
    exact hd y (by have := hf.size; omega)
  · rw [List.length_append, List.zip_append hvl.symm, List.flatMap_append]
    simpa using hown
  · by_cases hi2 : i < p.deeds.length
    · rw [List.getElem?_append_left hi2] at hd1
      rw [List.getElem?_append_left (by omega)] at hv1
      exact (hsh i d' v hd1 hv1).fr hF (by simp)
    · have e1 : i = p.deeds.length := by
        have := (List.getElem?_eq_some_iff.1 hd1).1
        simp at this; omega
      subst e1
      rw [List.getElem?_append_right (Nat.le_refl _)] at hd1
      rw [List.getElem?_append_right (by omega)] at hv1
      simp at hd1
      simp [hvl] at hv1
      subst hd1 hv1
      exact hs.fr hF (by simp)
  · by_cases hg2 : g < w.heap.size
    · simp only [hg2, if_true]
      rcases hat with e | e
      · exact h.rrow g (by rw [← e]; exact hgo)
      · rw [e] at hgo; cases hgo; have := hb.size; omega
    · simp only [hg2, hgo, if_false, if_true]
  · rcases hown.2 with ⟨e, _⟩ | ⟨g, cap, cur, e, _⟩
    · exact ⟨_, _, _, e⟩
    · exact ⟨_, _, _, e⟩
/-- The row stored into the past. -/
theorem Sto.appendedOf {w0 w : World} {b : Nat} {g : Gh} {S : St} (h : Sto w0 b g S) {k : K4} (hk : k.ok) {x : Nat} (hx : g.pw k = some x) {dp : Option Nat} {dr v : Value} {p : Past} (hp : PaAt w0 g.r k x dp dr p) (hS : S.wet k = some p) {d : Deed} (m : (adV w0 g.r k (p.deeds ++ [d])).p w v) :
    ∃ g1, Sto (w.setCell ⟨x, 1, .none⟩ v) b g1 { S with wet := upd S.wet k (some (p.add d)) } ∧ g1.pm = g.pm ∧ g1.sv = g.sv ∧ Fr w0 (w.setCell ⟨x, 1, .none⟩ v) g.r g1.r (logOf k) := by
  obtain ⟨r', hf1, hd, hrow, hrr, _⟩ := m
  have hxr : r' x = .pa k := by rw [hf1.role x hp.lt]; exact hp.role
  have hf2 : Fr w (w.setCell ⟨x, 1, .none⟩ v) r' r' (fun t => t = .pa k) := Fr.of_set (by exact hxr)
  have hf : Fr w0 (w.setCell ⟨x, 1, .none⟩ v) g.r r' (fun t => t = .pa k ∨ t = .de k) := (hf1.mono fun t ht => .inr ht).trans (hf2.mono fun t ht => .inl ht)
  have hxh : w.heap[x]? = some (.cells #[ptrV dp, dr] 100) := by rw [hf1.block x hp.lt (by rw [hp.role]; simp)]; exact hp.heap
  refine ⟨⟨r', g.sv, g.wv, g.pm, g.pw⟩, ⟨?_, ?_, ?_, ?_, ?_, ?_, ?_, ?_, ?_⟩, rfl, rfl, hf.mono fun t ht => by rcases ht with rfl | rfl; exact .inr (.inr (.inl rfl)); exact .inr (.inr (.inr rfl))⟩
  · show r' b = .st
    rw [hf.role b h.lt]; exact h.role
  · rw [hf.block b h.lt (by rw [h.role]; simp)]; exact h.heap
  · exact h.sm.keep fun z hz hlt2 => hf.block z hlt2 (by rw [h.sr z hz]; simp)
  · intro z hz
    have hz2 : z < w0.heap.size := by
      have hsm := h.sm
      rw [hz] at hsm
      exact hsm.lt
    show r' z = .seen
    rw [hf.role z hz2]; exact h.sr z hz
  · exact h.wm.keep fun z hz hlt2 => hf.block z hlt2 (by rw [h.wr z hz]; simp)
  · intro z hz
    have hz2 : z < w0.heap.size := by
      have hsm := h.wm
      rw [hz] at hsm
      exact hsm.lt
    show r' z = .wet
    rw [hf.role z hz2]; exact h.wr z hz
  · exact fun k2 hk2 => (h.seen k2 hk2).fr hf (by intro t ht; rcases ht with rfl | rfl | rfl <;> simp) (by simp)
  · intro k2 hk2
    by_cases e : k2 = k
    · subst e
      show PpAt (w.setCell ⟨x, 1, .none⟩ v) r' k2 (g.pw k2) (upd S.wet k2 (some (p.add d)) k2)
      rw [upd_same, hx]
      refine ⟨dp, v, ⟨hxr, ?_, ?_, ?_, hrr⟩⟩
      · have := heap_setCell_same w x 1 _ _ v hxh
        simpa using this
      · exact hp.dry.fr hf (by intro t ht; rcases ht with rfl | rfl | rfl <;> simp) (by simp)
      · exact hrow.fr hf2 (fun g2 hg2 => by rw [hrr g2 hg2]; simp) (by simp)
    · show PpAt (w.setCell ⟨x, 1, .none⟩ v) r' k2 (g.pw k2) (upd S.wet k (some (p.add d)) k2)
      rw [upd_other _ _ e]
      exact (h.wet k2 hk2).fr hf (by rintro t (rfl | rfl | rfl | rfl | rfl) <;> simp [e]) (by simp)
  · exact hd.later hf2.size

def agV (w0 : World) (r : Nat → Role) (o : Option Ob) : SV := ⟨fun w v => ∃ y, v = .agg #[ptrV y, .slice .none 0 0] ∧ cpOf w0 r w y o, fun w w' v ⟨y, h1, h2⟩ hb => ⟨y, h1, cpOf_st h2 hb⟩⟩
theorem St.opened_of {S : St} {k : K4} {p : Past} (h : S.wet k = some p) : S.opened k = S := by unfold St.opened; rw [h]

theorem DeedAt.later {w w' : World} {x : Nat} {d : Deed} {dv : Value} (h : DeedAt w x d dv) (hb : Below w.heap.size w w') : DeedAt w' x d dv := by
  unfold DeedAt at *
  rw [hb.block x (Array.getElem?_eq_some_iff.1 h).1]; exact h
theorem adV_cells {w w1 : World} {r : Nat → Role} {k : K4} {x : Nat} {dp : Option Nat} {dr v1 : Value} {p : Past} {ds : List Deed} (h : PaAt w r k x dp dr p) (m : (adV w r k ds).p w1 v1) :
    w1.cell? ⟨x, 1, .none⟩ = some dr ∧ w1.frozen? ⟨x, 1, .none⟩ = false := by
  obtain ⟨r', hf, _, _, _, _⟩ := m
  have e : w1.heap[x]? = some (.cells #[ptrV dp, dr] 100) := by rw [hf.block x h.lt (by rw [h.role]; simp)]; exact h.heap
  exact ⟨cell_of_block e rfl, frozen_of_block e 1⟩
/-- What lies between: nothing turned, the row appended to, the row stored. -/
def jL (w0 : World) (b : Nat) (w00 : World) (g : Gh) (k : K4) (S' : St) : Nat → World → Prop
  | 0, w => Below w0.heap.size w0 w
  | 1, _ => True
  | _, w => ∃ g', Sto w b g' S' ∧ g'.pm = g.pm ∧ g'.sv = g.sv ∧ Fr w00 w g.r g'.r (logOf k)
theorem jL_st {w0 : World} {b : Nat} {w00 : World} {g : Gh} {k : K4} {S' : St} (ph : Nat) {w w' : World} (h : jL w0 b w00 g k S' ph w) (hb : Below w.heap.size w w') : jL w0 b w00 g k S' ph w' := by
  match ph, h with
  | 0, h => exact Below.trans h (hb.mono h.size)
  | 1, _ => trivial
  | n + 2, h =>
    obtain ⟨g', h1, h2, h3, h4⟩ := h
    exact ⟨g', h1.later hb, h2, h3, h4.later hb⟩
theorem jL_of {w0 w' : World} {b : Nat} {w00 : World} {g g2 : Gh} {k : K4} {S' : St} {n : Nat} (h : ∃ g1, Sto w' b g1 S' ∧ g1.pm = g2.pm ∧ g1.sv = g2.sv ∧ Fr w0 w' g2.r g1.r (logOf k)) (hF : Fr w00 w0 g.r g2.r (logOf k) ∧ g2.pm = g.pm ∧ g2.sv = g.sv) :
    jL w0 b w00 g k S' (n + 2) w' := by
  obtain ⟨g1, a1, a2, a3, a4⟩ := h
  exact ⟨g1, a1, a2.trans hF.2.1, a3.trans hF.2.2, hF.1.trans a4⟩
set_option maxRecDepth 20000 in
theorem log_any (w : World) (b : Nat) (g : Gh) (S : St) (h : Sto w b g S) (k : K4) (hk : k.ok) (d : Deed) (dv : Value) (hs : Shr w g.r dv d.data) (hw : S.wks.length ≤ 1000000) (hl : ∀ o, S.seen k = some o → o.bytes.length ≤ 16384) (hdl : ∀ p, S.wet k = some p → p.deeds.length ≤ 1000000) :
    Calls Try.prog 60 #[.pointer (some ⟨b, 0, .none⟩), kv k, deedV d dv] w fun e w' =>
      e = .returned (.tuple #[]) ∧ ∃ g', Sto w' b g' (S.logged k d) ∧ g'.pm = g.pm ∧ g'.sv = g.sv ∧ Fr w w' g.r g'.r (logOf k) := by
  have q (w : World) (p : Option Nat) := run_eql_map_nil_sl (P := Try.prog) w 62 _ _ p Try.underlying62
  obtain ⟨a0, c0, rfl, _, _⟩ := id hs
  have hone : (Value.slice a0 d.data.length c0).oneCell' = true := rfl
  obtain ⟨dv, hdv⟩ : ∃ dv, Value.slice a0 d.data.length c0 = dv := ⟨_, rfl⟩
  rw [hdv] at hs hone ⊢
  have HO := Lib.hid hone
  clear hone hdv
  have hlt := h.lt
  unfold kv deedV
  obtain ⟨w1, hw1⟩ : ∃ w1, (w.alloc (.cells #[.int .i64 k.a, .int .i64 k.b, .int .i64 k.c, .int .i64 k.d] 27)).alloc (.cells #[.int .i64 d.kind, .int .i64 d.at_, .string ⟨d.name.toArray⟩, dv] 69) = w1 := ⟨_, rfl⟩
  have hb1 : Below w.heap.size w w1 := by rw [← hw1]; exact ((Below.refl _ _).alloc (Nat.le_refl _) _).alloc (by simp) _
  have hK : KeyAt w1 w.heap.size k := by rw [← hw1]; exact (KeyAt.new w k).later ((Below.refl _ _).alloc (Nat.le_refl _) _)
  have hD : DeedAt w1 (w.heap.size + 1) d dv := by
    have h2 := (MapKept.heap_alloc (w.alloc (.cells #[.int .i64 k.a, .int .i64 k.b, .int .i64 k.c, .int .i64 k.d] 27)) (.cells #[.int .i64 d.kind, .int .i64 d.at_, .string ⟨d.name.toArray⟩, dv] 69)).1
    have e : (w.alloc (.cells #[.int .i64 k.a, .int .i64 k.b, .int .i64 k.c, .int .i64 k.d] 27)).heap.size = w.heap.size + 1 := by simp
    rw [e] at h2
    rw [← hw1]; exact h2
  have hsz1 : w1.heap.size = w.heap.size + 2 := by rw [← hw1]; simp
  have h1 := h.later hb1
  have hs1 := hs.later hb1
  have hj0 : g.r w.heap.size = .junk := h.dom _ (Nat.le_refl _)
  have hj1 : g.r (w.heap.size + 1) = .junk := h.dom _ (by omega)
  go_enter Try.func60, Try.ntmps60
  obtain ⟨mo, hmo⟩ : ∃ mo, g.wv = .map mo := by
    rcases h1.wm.shape with e | ⟨m, e⟩
    · exact ⟨_, e⟩
    · exact ⟨_, e⟩
  have c3 : w1.cell? ⟨b, 3, .none⟩ = some (.map mo) := hmo ▸ cell_of_block h1.heap rfl
  have f3 : w1.frozen? ⟨b, 3, .none⟩ = false := frozen_of_block h1.heap 3
  have HM := Lib.hid hmo
  have HB := Lib.hid hb1
  clear hmo hb1
  go_upto_region 1 with fail
  clear hw1
  go_upto_if 11 with fail
  have hlt1 : b < w1.heap.size := by omega
  have hmm := @run_makeMap Try.prog
  go_cut [] (fun wx => ∃ g1 m, Sto wx b g1 S ∧ g1.wv = .map (some m) ∧ g1.pm = g.pm ∧ g1.sv = g.sv ∧ Fr w1 wx g.r g1.r (logOf k))
  case first =>
    cases mo with
    | none =>
      have f3b : (w1.alloc (.map #[] 0)).frozen? ⟨b, 3, .none⟩ = false := frozen_of_block (h1.later ((Below.refl _ _).alloc (Nat.le_refl _) _)).heap 3
      have c3b : (w1.alloc (.map #[] 0)).cell? ⟨b, 3, .none⟩ = some (.map .none) := HM.out ▸ cell_of_block (h1.later ((Below.refl _ _).alloc (Nat.le_refl _) _)).heap rfl
      have H1 := Lib.hid (Sto.madeWet h1 HM.out k)
      clear h h1
      go_wp2_with fail
      go_meet
      obtain ⟨g1, a1, a2, a3, a4, _, a5⟩ := H1.out
      rw [hsz1] at a1 a2 a5
      exact ⟨g1, _, a1, a2, a3, a4, a5⟩
    | some m =>
      have H1 := Lib.hid h1
      clear h h1
      go_wp2_with fail
      go_meet
      exact ⟨g, m, H1.out, HM.out, rfl, rfl, Fr.refl _ _ _⟩
  case rest =>
    clear hmm c3 f3
    obtain ⟨g1, m, h2, hm2, hpm2, hsv2, hf2⟩ := hcut
    have hK2 := hK.fr hf2 hj0 (logOf_junk k)
    have hD2 := hD.fr hf2 hj1 (logOf_junk k)
    have hs2 := hs1.fr hf2 (logOf_junk k)
    have hj02 : g1.r w.heap.size = .junk := by rw [hf2.role _ (by omega)]; exact hj0
    have hj12 : g1.r (w.heap.size + 1) = .junk := by rw [hf2.role _ (by omega)]; exact hj1
    have HF2 := Lib.hid (And.intro hpm2 (And.intro hsv2 hf2))
    clear hf2 hpm2 hsv2 h h1 hK hD hs1 hj0 hj1
    have hlt2 := h2.lt
    have c3 : wc.cell? ⟨b, 3, .none⟩ = some (.map (some m)) := hm2 ▸ cell_of_block h2.heap rfl
    have c2 : wc.cell? ⟨b, 2, .none⟩ = some g1.sv := cell_of_block h2.heap rfl
    obtain ⟨k0, k1, k2, k3⟩ := hK2.cells
    have hlk := PMap.look (w := wc.drew) (hm2 ▸ h2.wm) Try.underlying62 zero_ptr_pa hk
    unfold kv at hlk
    go_upto_region 3 with fail
    go_region
    simp only [Exit.then]
    clear hlk
    obtain ⟨px, hpx⟩ : ∃ px, g1.pw k = px := ⟨_, rfl⟩
    rw [hpx]
    simp only [ptrV]
    go_upto_if 23 with fail
    go_cut [6] (fun p wx => ∃ g2 x, p = .pointer (some ⟨x, 0, .none⟩) ∧ Sto wx b g2 (S.opened k) ∧ g2.pw k = some x ∧ g2.pm = g1.pm ∧ g2.sv = g1.sv ∧ Fr wc wx g1.r g2.r (logOf k))
    case first =>
      cases px with
      | some x =>
        have H2 := Lib.hid h2
        have HP := Lib.hid hpx
        clear h2 hpx
        simp only [Option.map]
        go_wp2_with fail
        go_meet
        have hw2 := H2.out.wet k hk
        rw [HP.out] at hw2
        cases hS : S.wet k with
        | none => rw [hS] at hw2; exact hw2.elim
        | some p =>
          rw [St.opened_of hS]
          exact ⟨g1, x, rfl, H2.out.later ((Below.refl _ _).drew), HP.out, rfl, rfl, Fr.of_below ((Below.refl _ _).drew) _ _⟩
      | none =>
        have hSn : S.wet k = .none := by
          have hw2 := h2.wet k hk
          rw [hpx] at hw2
          cases hS : S.wet k with
          | none => rfl
          | some p => rw [hS] at hw2; exact hw2.elim
        have H2 := Lib.hid h2
        have HP := Lib.hid hpx
        have HSN := Lib.hid hSn
        have HL := Lib.hid hl
        have HK2 := Lib.hid hK2
        have HD0 : Hid (Below wc.heap.size wc wc.drew) := Lib.hid ((Below.refl _ _).drew)
        clear h2 hpx hSn hl hdl hK2
        simp only [Option.map]
        go_wp2_with fail
-- REG L5
        refine wp_region_tab (L := [cV (.pointer (some ⟨b, 0, .none⟩)), cV (.pointer (some ⟨b, 0, .none⟩)), cV (.pointer (some ⟨b, 2, .none⟩)), cV (g1.sv), cV (.agg #[.int .i64 k.a, .int .i64 k.b, .int .i64 k.c, .int .i64 k.d]), cV (ptrV (g1.pm k)), cpV wc g1.r (S.seen k), agV wc g1.r (S.seen k), paV wc g1.r (S.seen k), paV wc g1.r (S.seen k)]) [[(0, none)], [(24, some 0)], [(25, some 1)], [(26, some 2)], [(4, none)], [(27, some 3), (28, some 4)], [(29, some 5)], [(30, some 6)], [(31, some 7)], [(32, some 8)]] 10 49 (by kernel_rfl) rfl rfl (by kernel_rfl) (by kernel_rfl) ?_ ?_
        · show ∀ i, i < 10 → _
          iterate 10 (refine fls ?_ ?_)
          · exact fl0
          · intro a w1 hR hsz hs      -- 0: slot 24
            obtain ⟨h0, _⟩ := hs
            have h0 : a.tmps.getD 0 undef = .pointer (some ⟨b, 0, .none⟩) := h0
            refine op_run rfl rfl (v := .pointer (some ⟨b, 0, .none⟩)) (w' := w1) ?_ rfl (Below.refl _ _)
            simp [execOp, Act.eval, h0, go_sem]
          · intro a w1 hR hsz hs      -- 1: slot 25
            obtain ⟨h0, _⟩ := hs
            have h0 : a.tmps.getD 24 undef = .pointer (some ⟨b, 0, .none⟩) := h0
            refine op_run rfl rfl (v := .pointer (some ⟨b, 0, .none⟩)) (w' := w1) ?_ rfl (Below.refl _ _)
            simp [execOp, Act.eval, h0, go_sem]
          · intro a w1 hR hsz hs      -- 2: slot 26
            obtain ⟨h0, _⟩ := hs
            have h0 : a.tmps.getD 25 undef = .pointer (some ⟨b, 0, .none⟩) := h0
            refine op_run rfl rfl (v := .pointer (some ⟨b, 2, .none⟩)) (w' := w1) ?_ rfl (Below.refl _ _)
            simp [execOp, Act.eval, h0, go_sem]
          · intro a w1 hR hsz hs      -- 3: slot 27
            obtain ⟨h0, _⟩ := hs
            have h0 : a.tmps.getD 26 undef = .pointer (some ⟨b, 2, .none⟩) := h0
            have c := ((HD0.out.trans (hR.mono HD0.out.size)).cell (p := ⟨b, 2, .none⟩) hlt2).trans c2
            refine op_run rfl rfl (v := g1.sv) (w' := w1) ?_ rfl (Below.refl _ _)
            simp [execOp, Act.eval, h0, c, go_sem]
          · intro a w1 hR hsz hs      -- 4: slot 28
            obtain ⟨h0, _⟩ := hs
            have h0 : a.tmps.getD 4 undef = .pointer (some ⟨w.heap.size, 0, .none⟩) := h0
            obtain ⟨c, c', c'', c'''⟩ := ((HK2.out).later (HD0.out.trans (hR.mono HD0.out.size))).cells
            refine op_run rfl rfl (v := .agg #[.int .i64 k.a, .int .i64 k.b, .int .i64 k.c, .int .i64 k.d]) (w' := w1) ?_ rfl (Below.refl _ _)
            simp [execOp, Act.eval, h0, c, c', c'', c''', go_sem]
          · intro a w1 hR hsz hs      -- 5: slot 29
            obtain ⟨h0, h1, _⟩ := hs
            have h0 : a.tmps.getD 27 undef = g1.sv := h0
            have h1 : a.tmps.getD 28 undef = .agg #[.int .i64 k.a, .int .i64 k.b, .int .i64 k.c, .int .i64 k.d] := h1
            have c := PMap.look (w := w1) (H2.out.sm.keep fun z _ hz => (HD0.out.trans (hR.mono HD0.out.size)).block z hz) Try.underlying61 zero_ptr_ob hk
            unfold kv at c
            refine op_run rfl rfl (v := ptrV (g1.pm k)) (w' := w1) ?_ rfl (Below.refl _ _)
            simp [execOp, Act.eval, h0, h1, c, go_sem]
          · intro a w1 hR hsz hs      -- 6: slot 30
            obtain ⟨h0, _⟩ := hs
            have h0 : a.tmps.getD 29 undef = ptrV (g1.pm k) := h0
            refine op_call rfl rfl (f := 81) (args := #[ptrV (g1.pm k)]) (by simp [execOp, Act.eval, resolve, h0, go_sem]) ?_
            exact copied_any wc w1 g1.r false k (g1.pm k) (S.seen k) (H2.out.seen k hk) HL.out (HD0.out.trans (hR.mono HD0.out.size))
          · intro a w1 hR hsz hs      -- 7: slot 31
            obtain ⟨h0, _⟩ := hs
            obtain ⟨y0, e0, m0⟩ := h0
            have e0 : a.tmps[30]?.getD undef = ptrV y0 := by rw [← e0]; exact (Array.getD_eq_getD_getElem?).symm
            refine op_run rfl rfl (v := .agg #[ptrV y0, .slice .none 0 0]) (w' := w1) ?_ ⟨y0, rfl, m0⟩ (Below.refl _ _)
            unfold ptrV at e0
            simp [execOp, Act.eval, e0, go_sem, ptrV]
          · intro a w1 hR hsz hs      -- 8: slot 32
            obtain ⟨h0, _⟩ := hs
            obtain ⟨y0, e0, m0⟩ := h0
            refine op_run rfl rfl (v := .pointer (some ⟨w1.heap.size, 0, .none⟩)) (w' := w1.alloc (.cells #[ptrV y0, .slice .none 0 0] 100)) ?_ ⟨w1.heap.size, y0, rfl, (HD0.out.trans (hR.mono HD0.out.size)).size, (MapKept.heap_alloc w1 _).1, cpOf_st m0 ((Below.refl _ _).alloc (Nat.le_refl _) _)⟩ ((Below.refl _ _).alloc (Nat.le_refl _) _)
            simp [execOp, Act.eval, e0, go_sem]
          · intro a w1 hR hsz hs      -- 9: slot 6
            obtain ⟨h0, _⟩ := hs
            obtain ⟨v0, e0, m0⟩ : ∃ v, a.tmps.getD 32 undef = v ∧ (paV wc g1.r (S.seen k)).p w1 v := ⟨_, rfl, h0⟩
            refine op_run rfl rfl (v := v0) (w' := w1) ?_ m0 (Below.refl _ _)
            simp [execOp, Act.eval, e0, go_sem]
        · intro f w1 hR hv
          have e6 : (paV wc g1.r (S.seen k)).p w1 (f 6) := hv 9 _ 6 rfl rfl
          clear hv
          simp only [Exit.then]
          simp only [putAll, List.foldl_cons, List.foldl_nil, Option.getD_some, Act.put, List.setIfInBounds_toArray, List.set_cons_succ, List.set_cons_zero]
          generalize f 6 = v6 at e6 ⊢
          obtain ⟨x, y, rfl, hN, hx, hy⟩ := e6
          have hbw : Below wc.heap.size wc w1 := HD0.out.trans (hR.mono HD0.out.size)
          obtain ⟨w3, hrun, hmap, hgr⟩ := PMap.put (w := w1.drew) (pm := g1.pw) (b := m) (n := S.wks.length) (h := (hm2 ▸ H2.out.wm).keep fun z _ hz => hbw.block z hz) Try.underlying62 (by unfold maxLen; omega) hk x
          have c3 : w1.cell? ⟨b, 3, .none⟩ = some (.map (some m)) := (hbw.cell (p := ⟨b, 3, .none⟩) hlt2).trans c3
          obtain ⟨k0, k1, k2, k3⟩ := (HK2.out.later hbw).cells
          unfold kv at hrun
          simp only [ptrV, Option.map] at hrun
          have HST := Lib.hid (Sto.openedOf (w' := w3) H2.out hk hm2 HP.out HSN.out hbw hN hx hy (by rw [HP.out] at hmap; simpa using hmap) (by obtain ⟨a1, a2, a3, a4, a5⟩ := hgr; exact ⟨a1, a2, a3, a4, a5⟩))
          clear hmap hgr hx hy hbw hR
          go_wp2_with fail
          go_region
          simp only [Exit.then]
          go_wp2_with fail
          go_meet
          obtain ⟨g2, a1, _, a2, a3, a4, a5⟩ := HST.out
          exact ⟨g2, x, rfl, a1, a4, a2, a3, a5⟩
-- END L5
    case rest =>
      obtain ⟨g2, x, rfl, h3, hx, hpm3, hsv3, hf3⟩ := hcut
      have hp3 := h3.wet k hk
      rw [hx] at hp3
      obtain ⟨p, hSp⟩ : ∃ p, (S.opened k).wet k = some p := by
        cases hS : (S.opened k).wet k with
        | none => rw [hS] at hp3; exact hp3.elim
        | some p => exact ⟨p, rfl⟩
      rw [hSp] at hp3
      obtain ⟨dp, dr, hp3⟩ := hp3
      have hdl3 : p.deeds.length ≤ 1000000 := by
        unfold St.opened at hSp
        cases hS : S.wet k with
        | none => rw [hS] at hSp; simp only [upd_same] at hSp; cases hSp; simp
        | some p2 => rw [hS] at hSp; simp only [hS] at hSp; cases hSp; exact hdl _ hS
      have hxlt : x < wc.heap.size := hp3.lt
      have c1 : wc.cell? ⟨x, 1, .none⟩ = some dr := cell_of_block hp3.heap rfl
      have HDA := Lib.hid (hD2.fr hf3 hj12 (logOf_junk k))
      have HS := Lib.hid (hs2.fr hf3 (logOf_junk k))
      have HP := Lib.hid hp3
      have HSP := Lib.hid hSp
      have HX := Lib.hid hx
      have HDL := Lib.hid hdl3
      obtain ⟨e1, e2, e3⟩ := HF2.out
      have HF : Hid (Fr w wc g.r g2.r (logOf k) ∧ g2.pm = g.pm ∧ g2.sv = g.sv) := Lib.hid ⟨((Fr.of_below HB.out g.r _).trans e3).trans hf3, hpm3.trans e1, hsv3.trans e2⟩
      have H2 := Lib.hid h3
      clear h3 hp3 hx hSp hdl3 hl hdl h2 hm2 hK2 hD2 hs2 hj02 hj12 hs hpx c3 c2 k0 k1 k2 k3 hpm3 hsv3 hf3 e1 e2 e3 q
      go_upto_region 7 with fail
-- REG L7
      refine wp_region_ptab (L := fun ph => match ph with | 0 => [cV (.pointer (some ⟨x, 0, .none⟩)), cV (.pointer (some ⟨x, 0, .none⟩)), cV (.pointer (some ⟨x, 0, .none⟩)), cV (.pointer (some ⟨x, 1, .none⟩)), cV (dr), cV (.agg #[.int .i64 d.kind, .int .i64 d.at_, .string ⟨d.name.toArray⟩, dv]), ndV d dv, adV wc g2.r k (p.deeds ++ [d]), cV (.pointer (some ⟨x, 0, .none⟩)), cV (.pointer (some ⟨x, 1, .none⟩)), tV] | 1 => [cV (.pointer (some ⟨x, 0, .none⟩)), cV (.pointer (some ⟨x, 0, .none⟩)), cV (.pointer (some ⟨x, 0, .none⟩)), cV (.pointer (some ⟨x, 1, .none⟩)), cV (dr), cV (.agg #[.int .i64 d.kind, .int .i64 d.at_, .string ⟨d.name.toArray⟩, dv]), tV, adV wc g2.r k (p.deeds ++ [d]), cV (.pointer (some ⟨x, 0, .none⟩)), cV (.pointer (some ⟨x, 1, .none⟩)), tV] | _ => [cV (.pointer (some ⟨x, 0, .none⟩)), cV (.pointer (some ⟨x, 0, .none⟩)), cV (.pointer (some ⟨x, 0, .none⟩)), cV (.pointer (some ⟨x, 1, .none⟩)), cV (dr), cV (.agg #[.int .i64 d.kind, .int .i64 d.at_, .string ⟨d.name.toArray⟩, dv]), tV, tV, cV (.pointer (some ⟨x, 0, .none⟩)), cV (.pointer (some ⟨x, 1, .none⟩)), tV]) (jL wc b w g k { S.opened k with wet := upd (S.opened k).wet k (some (p.add d)) }) [7, 10] [(0, 1), (0, 0), (0, 0), (0, 0), (0, 0), (0, 0), (0, 0), (0, 1), (0, 1), (0, 1), (1, 2)] [[(6, none)], [(6, none)], [(40, some 1)], [(41, some 2)], [(42, some 3)], [(5, none)], [(44, some 5)], [(43, some 4), (45, some 6)], [(39, some 0)], [(47, some 8)], [(48, some 9), (46, some 7)]] 11 2 49 (by kernel_rfl) rfl rfl rfl (by kernel_rfl) (by kernel_rfl) (by decide) (by kernel_rfl) ?_ ?_ ?_ ?_ ?_
      · exact fun ph w1 w2 h hb => jL_st ph h hb
      · exact Below.refl _ _
      · show ∀ i, i < 11 → _
        iterate 11 (refine fls ?_ ?_)
        · exact fl0
        · intro hne lo hi ph hran hp1 hp2 a w1 hJ hsz hs      -- 0: slot 39
          obtain ⟨rfl, rfl⟩ : 0 = lo ∧ 1 = hi := Prod.mk.inj (Option.some.inj hran)
          rcases (by omega : ph = 0 ∨ ph = 1) with rfl | rfl
          · obtain ⟨h0, _⟩ := hs
            have h0 : a.tmps.getD 6 undef = .pointer (some ⟨x, 0, .none⟩) := h0
            refine op_run rfl rfl (v := .pointer (some ⟨x, 0, .none⟩)) (w' := w1) ?_ rfl (Below.refl _ _)
            simp [execOp, Act.eval, h0, go_sem]
          · obtain ⟨h0, _⟩ := hs
            have h0 : a.tmps.getD 6 undef = .pointer (some ⟨x, 0, .none⟩) := h0
            refine op_run rfl rfl (v := .pointer (some ⟨x, 0, .none⟩)) (w' := w1) ?_ rfl (Below.refl _ _)
            simp [execOp, Act.eval, h0, go_sem]
        · intro hne lo hi ph hran hp1 hp2 a w1 hJ hsz hs      -- 1: slot 40
          obtain ⟨rfl, rfl⟩ : 0 = lo ∧ 0 = hi := Prod.mk.inj (Option.some.inj hran)
          obtain rfl : ph = 0 := by omega
          obtain ⟨h0, _⟩ := hs
          have h0 : a.tmps.getD 6 undef = .pointer (some ⟨x, 0, .none⟩) := h0
          refine op_run rfl rfl (v := .pointer (some ⟨x, 0, .none⟩)) (w' := w1) ?_ rfl (Below.refl _ _)
          simp [execOp, Act.eval, h0, go_sem]
        · intro hne lo hi ph hran hp1 hp2 a w1 hJ hsz hs      -- 2: slot 41
          obtain ⟨rfl, rfl⟩ : 0 = lo ∧ 0 = hi := Prod.mk.inj (Option.some.inj hran)
          obtain rfl : ph = 0 := by omega
          obtain ⟨h0, _⟩ := hs
          have h0 : a.tmps.getD 40 undef = .pointer (some ⟨x, 0, .none⟩) := h0
          refine op_run rfl rfl (v := .pointer (some ⟨x, 0, .none⟩)) (w' := w1) ?_ rfl (Below.refl _ _)
          simp [execOp, Act.eval, h0, go_sem]
        · intro hne lo hi ph hran hp1 hp2 a w1 hJ hsz hs      -- 3: slot 42
          obtain ⟨rfl, rfl⟩ : 0 = lo ∧ 0 = hi := Prod.mk.inj (Option.some.inj hran)
          obtain rfl : ph = 0 := by omega
          obtain ⟨h0, _⟩ := hs
          have h0 : a.tmps.getD 41 undef = .pointer (some ⟨x, 0, .none⟩) := h0
          refine op_run rfl rfl (v := .pointer (some ⟨x, 1, .none⟩)) (w' := w1) ?_ rfl (Below.refl _ _)
          simp [execOp, Act.eval, h0, go_sem]
        · intro hne lo hi ph hran hp1 hp2 a w1 hJ hsz hs      -- 4: slot 43
          obtain ⟨rfl, rfl⟩ : 0 = lo ∧ 0 = hi := Prod.mk.inj (Option.some.inj hran)
          obtain rfl : ph = 0 := by omega
          obtain ⟨h0, _⟩ := hs
          have h0 : a.tmps.getD 42 undef = .pointer (some ⟨x, 1, .none⟩) := h0
          have c := (Below.cell hJ (p := ⟨x, 1, .none⟩) hxlt).trans c1
          refine op_run rfl rfl (v := dr) (w' := w1) ?_ rfl (Below.refl _ _)
          simp [execOp, Act.eval, h0, c, go_sem]
        · intro hne lo hi ph hran hp1 hp2 a w1 hJ hsz hs      -- 5: slot 44
          obtain ⟨rfl, rfl⟩ : 0 = lo ∧ 0 = hi := Prod.mk.inj (Option.some.inj hran)
          obtain rfl : ph = 0 := by omega
          obtain ⟨h0, _⟩ := hs
          have h0 : a.tmps.getD 5 undef = .pointer (some ⟨w.heap.size + 1, 0, .none⟩) := h0
          obtain ⟨c, c', c'', c'''⟩ := DeedAt.cells (HDA.out.later hJ)
          refine op_run rfl rfl (v := .agg #[.int .i64 d.kind, .int .i64 d.at_, .string ⟨d.name.toArray⟩, dv]) (w' := w1) ?_ rfl (Below.refl _ _)
          simp [execOp, Act.eval, h0, c, c', c'', c''', go_sem]
        · intro hne lo hi ph hran hp1 hp2 a w1 hJ hsz hs      -- 6: slot 45
          obtain ⟨rfl, rfl⟩ : 0 = lo ∧ 0 = hi := Prod.mk.inj (Option.some.inj hran)
          obtain rfl : ph = 0 := by omega
          obtain ⟨h0, _⟩ := hs
          have h0 : a.tmps.getD 44 undef = .agg #[.int .i64 d.kind, .int .i64 d.at_, .string ⟨d.name.toArray⟩, dv] := h0
          refine op_run rfl rfl (v := .slice (some ⟨w1.heap.size, 0, .none⟩) 1 1) (w' := w1.alloc (.cells #[.int .i64 d.kind, .int .i64 d.at_, .string ⟨d.name.toArray⟩, dv] 69)) ?_ ⟨w1.heap.size, rfl, (MapKept.heap_alloc w1 _).1⟩ ((Below.refl _ _).alloc (Nat.le_refl _) _)
          have e0 : a.tmps[44]?.getD undef = .agg #[.int .i64 d.kind, .int .i64 d.at_, .string ⟨d.name.toArray⟩, dv] := by rw [← h0]; exact (Array.getD_eq_getD_getElem?).symm
          simp [execOp, Act.eval, e0, go_sem]
        · intro hne lo hi ph hran hp1 hp2 a w1 hJ hsz hs      -- 7: slot 46
          exact absurd (by decide) hne
        · intro hne lo hi ph hran hp1 hp2 a w1 hJ hsz hs      -- 8: slot 47
          obtain ⟨rfl, rfl⟩ : 0 = lo ∧ 1 = hi := Prod.mk.inj (Option.some.inj hran)
          rcases (by omega : ph = 0 ∨ ph = 1) with rfl | rfl
          · obtain ⟨h0, _⟩ := hs
            have h0 : a.tmps.getD 39 undef = .pointer (some ⟨x, 0, .none⟩) := h0
            refine op_run rfl rfl (v := .pointer (some ⟨x, 0, .none⟩)) (w' := w1) ?_ rfl (Below.refl _ _)
            simp [execOp, Act.eval, h0, go_sem]
          · obtain ⟨h0, _⟩ := hs
            have h0 : a.tmps.getD 39 undef = .pointer (some ⟨x, 0, .none⟩) := h0
            refine op_run rfl rfl (v := .pointer (some ⟨x, 0, .none⟩)) (w' := w1) ?_ rfl (Below.refl _ _)
            simp [execOp, Act.eval, h0, go_sem]
        · intro hne lo hi ph hran hp1 hp2 a w1 hJ hsz hs      -- 9: slot 48
          obtain ⟨rfl, rfl⟩ : 0 = lo ∧ 1 = hi := Prod.mk.inj (Option.some.inj hran)
          rcases (by omega : ph = 0 ∨ ph = 1) with rfl | rfl
          · obtain ⟨h0, _⟩ := hs
            have h0 : a.tmps.getD 47 undef = .pointer (some ⟨x, 0, .none⟩) := h0
            refine op_run rfl rfl (v := .pointer (some ⟨x, 1, .none⟩)) (w' := w1) ?_ rfl (Below.refl _ _)
            simp [execOp, Act.eval, h0, go_sem]
          · obtain ⟨h0, _⟩ := hs
            have h0 : a.tmps.getD 47 undef = .pointer (some ⟨x, 0, .none⟩) := h0
            refine op_run rfl rfl (v := .pointer (some ⟨x, 1, .none⟩)) (w' := w1) ?_ rfl (Below.refl _ _)
            simp [execOp, Act.eval, h0, go_sem]
        · intro hne lo hi ph hran hp1 hp2 a w1 hJ hsz hs      -- 10: slot None
          exact absurd (by decide) hne
      · show ∀ ph, ph < 2 → _
        iterate 2 (refine fls ?_ ?_)
        · exact fl0
        · intro i hi a w1 hJ hsz hs      -- heavy 0: op 7 slot 46
          obtain rfl : 7 = i := Option.some.inj hi
          obtain ⟨h0, h1, _⟩ := hs
          have h0 : a.tmps.getD 43 undef = dr := h0
          obtain ⟨v1, e1, m1⟩ : ∃ v, a.tmps.getD 45 undef = v ∧ (ndV d dv).p w1 v := ⟨_, rfl, h1⟩
          have hcalm : ∀ (w1 w2 : World) (kk : Nat) (v0 : Value), kk ≠ 7 → VL [cV (.pointer (some ⟨x, 0, .none⟩)), cV (.pointer (some ⟨x, 0, .none⟩)), cV (.pointer (some ⟨x, 0, .none⟩)), cV (.pointer (some ⟨x, 1, .none⟩)), cV (dr), cV (.agg #[.int .i64 d.kind, .int .i64 d.at_, .string ⟨d.name.toArray⟩, dv]), ndV d dv, adV wc g2.r k (p.deeds ++ [d]), cV (.pointer (some ⟨x, 0, .none⟩)), cV (.pointer (some ⟨x, 1, .none⟩)), tV] kk w1 v0 → VL [cV (.pointer (some ⟨x, 0, .none⟩)), cV (.pointer (some ⟨x, 0, .none⟩)), cV (.pointer (some ⟨x, 0, .none⟩)), cV (.pointer (some ⟨x, 1, .none⟩)), cV (dr), cV (.agg #[.int .i64 d.kind, .int .i64 d.at_, .string ⟨d.name.toArray⟩, dv]), tV, adV wc g2.r k (p.deeds ++ [d]), cV (.pointer (some ⟨x, 0, .none⟩)), cV (.pointer (some ⟨x, 1, .none⟩)), tV] kk w2 v0 := Calm.all (n := 0) ⟨.inl ⟨_, rfl, rfl⟩, .inl ⟨_, rfl, rfl⟩, .inl ⟨_, rfl, rfl⟩, .inl ⟨_, rfl, rfl⟩, .inl ⟨_, rfl, rfl⟩, .inl ⟨_, rfl, rfl⟩, .inr (.inl rfl), .inr (.inr rfl), .inl ⟨_, rfl, rfl⟩, .inl ⟨_, rfl, rfl⟩, .inr (.inl rfl), trivial⟩
          obtain ⟨v', w', hr, hm⟩ := adV_run HP.out (H2.out.dom) HS.out hJ HDL.out m1 HO.out
          refine hv_run rfl rfl (v := v') (w' := w') ?_ hm trivial (hcalm _ _)
          exact exec_append rfl (by simp [Act.eval, h0]) (by simp [Act.eval, e1]) hr
        · intro i hi a w1 hJ hsz hs      -- heavy 1: op 10 slot None
          obtain rfl : 10 = i := Option.some.inj hi
          obtain ⟨h0, h1, _⟩ := hs
          have h0 : a.tmps.getD 48 undef = .pointer (some ⟨x, 1, .none⟩) := h0
          obtain ⟨v1, e1, m1⟩ : ∃ v, a.tmps.getD 46 undef = v ∧ (adV wc g2.r k (p.deeds ++ [d])).p w1 v := ⟨_, rfl, h1⟩
          have hcalm : ∀ (w1 w2 : World) (kk : Nat) (v0 : Value), kk ≠ 10 → VL [cV (.pointer (some ⟨x, 0, .none⟩)), cV (.pointer (some ⟨x, 0, .none⟩)), cV (.pointer (some ⟨x, 0, .none⟩)), cV (.pointer (some ⟨x, 1, .none⟩)), cV (dr), cV (.agg #[.int .i64 d.kind, .int .i64 d.at_, .string ⟨d.name.toArray⟩, dv]), tV, adV wc g2.r k (p.deeds ++ [d]), cV (.pointer (some ⟨x, 0, .none⟩)), cV (.pointer (some ⟨x, 1, .none⟩)), tV] kk w1 v0 → VL [cV (.pointer (some ⟨x, 0, .none⟩)), cV (.pointer (some ⟨x, 0, .none⟩)), cV (.pointer (some ⟨x, 0, .none⟩)), cV (.pointer (some ⟨x, 1, .none⟩)), cV (dr), cV (.agg #[.int .i64 d.kind, .int .i64 d.at_, .string ⟨d.name.toArray⟩, dv]), tV, tV, cV (.pointer (some ⟨x, 0, .none⟩)), cV (.pointer (some ⟨x, 1, .none⟩)), tV] kk w2 v0 := Calm.all (n := 0) ⟨.inl ⟨_, rfl, rfl⟩, .inl ⟨_, rfl, rfl⟩, .inl ⟨_, rfl, rfl⟩, .inl ⟨_, rfl, rfl⟩, .inl ⟨_, rfl, rfl⟩, .inl ⟨_, rfl, rfl⟩, .inr (.inl rfl), .inr (.inl rfl), .inl ⟨_, rfl, rfl⟩, .inl ⟨_, rfl, rfl⟩, .inr (.inr rfl), trivial⟩
          obtain ⟨aa, nn, ca, rfl⟩ : ∃ aa nn cc, v1 = .slice aa nn cc := by
            obtain ⟨_, _, _, _, _, h⟩ := m1
            exact h
          refine hv_skip rfl rfl (w' := w1.setCell ⟨x, 1, .none⟩ (.slice aa nn ca)) ?_ trivial (jL_of (H2.out.appendedOf hk HX.out HP.out HSP.out m1) HF.out) (hcalm _ _)
          obtain ⟨cc, cf⟩ := adV_cells HP.out m1
          simp [execOp, Act.eval, h0, e1, go_sem, cc, cf]
      · intro f w1 hJ hv
        try simp only [Exit.then]
        simp only [putAll, List.foldl_cons, List.foldl_nil, Option.getD_some, Act.put, List.setIfInBounds_toArray, List.set_cons_succ, List.set_cons_zero]
        clear hv c1 hxlt
        obtain ⟨g3, a1, a2, a3, a4⟩ := hJ
        have HEND : Hid (∃ g', Sto w1 b g' (S.logged k d) ∧ g'.pm = g.pm ∧ g'.sv = g.sv ∧ Fr w w1 g.r g'.r (logOf k)) := by
          refine Lib.hid ⟨g3, ?_, a2, a3, a4⟩
          unfold St.logged
          rw [HSP.out]
          exact a1
        clear a1 a2 a3 a4
        go_wp2_with fail
        go_end0
        exact ⟨rfl, HEND.out⟩
-- END L7
end Go.Proofs.Ytgjdabneodkmpaa
