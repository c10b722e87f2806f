/- An object laid into the map of what is seen: 'lay'; a deed done: 'do'. -/
import Derived.Test.YtgjdabneodkmpaaStL
namespace Go.Proofs.Ytgjdabneodkmpaa
open Go.RowKit
set_option linter.unusedVariables false

def St.laid (S : St) (k : K4) (o : Option Ob) (was : Int) : St := { S with seen := upd S.seen k o, sks := match o with | .none => S.sks.filter (fun x => decide (x ≠ k)) | some _ => if (S.seen k).isSome then S.sks else S.sks ++ [k], used := S.used + (usedOf o - was) }
def layOf (t : Role) : Prop := t = .st ∨ t = .seen
/-- What is said of the wet part: it stays while the store's own struct, its map of what is seen are written. -/
def WStay (X : World → (Nat → Role) → Prop) : Prop := ∀ w w' r r', X w r → Fr w w' r r' layOf → X w' r'
def wetX (pw : K4 → Option Nat) (wet : K4 → Option Past) (w : World) (r : Nat → Role) : Prop := ∀ k, k.ok → PpAt w r k (pw k) (wet k)
theorem wetX_stay (pw : K4 → Option Nat) (wet : K4 → Option Past) : WStay (wetX pw wet) := fun w w' r r' h hf k hk => (h k hk).fr hf (by rintro t (rfl | rfl | rfl | rfl | rfl) <;> rintro (h | h) <;> cases h) (by rintro (h | h) <;> cases h)
/-- A store of which the wet part is said otherwise. -/
structure StoL (w : World) (b : Nat) (g : Gh) (S : St) (X : World → (Nat → Role) → Prop) : Prop where
  role : g.r b = .st
  heap : w.heap[b]? = some (.cells #[.int .i64 S.room, .bool S.off, g.sv, g.wv, .int .i64 S.used, .int .i64 S.deeds, .pointer .none] 65)
  sm : PMap w g.sv g.pm S.sks.length
  sr : ∀ x, g.sv = .map (some x) → g.r x = .seen
  wm : PMap w g.wv g.pw S.wks.length
  wr : ∀ x, g.wv = .map (some x) → g.r x = .wet
  seen : ∀ k', k'.ok → OpAt w g.r false k' (g.pm k') (S.seen k')
  wet : X w g.r
  dom : Dom w g.r
theorem StoL.sto {w : World} {b : Nat} {g : Gh} {S : St} (h : StoL w b g S (wetX g.pw S.wet)) : Sto w b g S := ⟨h.role, h.heap, h.sm, h.sr, h.wm, h.wr, h.seen, h.wet, h.dom⟩
theorem Sto.stoL {w : World} {b : Nat} {g : Gh} {S : St} (h : Sto w b g S) : StoL w b g S (wetX g.pw S.wet) := ⟨h.role, h.heap, h.sm, h.sr, h.wm, h.wr, h.seen, h.wet, h.dom⟩
/-- A store but for one object. -/
structure StoH (w : World) (b : Nat) (g : Gh) (S : St) (k : K4) (X : World → (Nat → Role) → Prop) : Prop where
  role : g.r b = .st
  heap : w.heap[b]? = some (.cells #[.int .i64 S.room, .bool S.off, g.sv, g.wv, .int .i64 S.used, .int .i64 S.deeds, .pointer .none] 65)
  sm : PMap w g.sv g.pm S.sks.length
  sr : ∀ x, g.sv = .map (some x) → g.r x = .seen
  wm : PMap w g.wv g.pw S.wks.length
  wr : ∀ x, g.wv = .map (some x) → g.r x = .wet
  seen : ∀ k', k'.ok → k' ≠ k → OpAt w g.r false k' (g.pm k') (S.seen k')
  wet : X w g.r
  dom : Dom w g.r
  hk : (g.pm k).isSome = (S.seen k).isSome
theorem OpAt.some_eq {w : World} {r : Nat → Role} {p : Bool} {k : K4} {x : Option Nat} {o : Option Ob} (h : OpAt w r p k x o) : x.isSome = o.isSome := by
  cases x <;> cases o <;> first | rfl | exact h.elim
theorem StoH.lt {w : World} {b : Nat} {g : Gh} {S : St} {k : K4} {X : World → (Nat → Role) → Prop} (h : StoH w b g S k X) : b < w.heap.size := (Array.getElem?_eq_some_iff.1 h.heap).1
theorem Sto.hole {w w' : World} {b : Nat} {g : Gh} {S : St} (h : Sto w b g S) {k : K4} (hk : k.ok) {r' : Nat → Role} (hf : Fr w w' g.r r' (ofOb false k)) (hd : Dom w' r') : StoH w' b ⟨r', g.sv, g.wv, g.pm, g.pw⟩ S k (wetX g.pw S.wet) where
  role := by show r' b = .st; rw [hf.role b h.lt]; exact h.role
  heap := by rw [hf.block b h.lt (by rw [h.role]; rintro (h | h | h) <;> cases h)]; exact h.heap
  sm := h.sm.keep fun x hx hlt => hf.block x hlt (by rw [h.sr x hx]; rintro (h | h | h) <;> cases h)
  sr := fun x hx => by
    have hx2 : x < w.heap.size := by have hsm := h.sm; rw [show g.sv = .map (some x) from hx] at hsm; exact hsm.lt
    show r' x = .seen
    rw [hf.role x hx2]; exact h.sr x hx
  wm := h.wm.keep fun x hx hlt => hf.block x hlt (by rw [h.wr x hx]; rintro (h | h | h) <;> cases h)
  wr := fun x hx => by
    have hx2 : x < w.heap.size := by have hsm := h.wm; rw [show g.wv = .map (some x) from hx] at hsm; exact hsm.lt
    show r' x = .wet
    rw [hf.role x hx2]; exact h.wr x hx
  seen := fun k' hk' hne => (h.seen k' hk').fr hf (by rintro t (rfl | rfl | rfl) <;> rintro (h | h | h) <;> simp at h <;> exact hne h) (by rintro (h | h | h) <;> cases h)
  wet := fun k' hk' => (h.wet k' hk').fr hf (by rintro t (rfl | rfl | rfl | rfl | rfl) <;> rintro (h | h | h) <;> cases h) (by rintro (h | h | h) <;> cases h)
  dom := hd
  hk := (h.seen k hk).some_eq
theorem StoH.fr {w w' : World} {b : Nat} {g : Gh} {S : St} {k : K4} {X : World → (Nat → Role) → Prop} (h : StoH w b g S k X) (hX : WStay X) (hb : Below w.heap.size w w') : StoH w' b g S k X := by
  have hf : Fr w w' g.r g.r (fun _ => False) := Fr.of_below hb g.r _
  exact ⟨h.role, by rw [hf.block b h.lt (fun h => h)]; exact h.heap, h.sm.keep fun x _ hlt => hb.block x hlt, h.sr, h.wm.keep fun x _ hlt => hb.block x hlt, h.wr,
    fun k' hk' hne => (h.seen k' hk' hne).fr hf (fun _ _ h => h) (fun h => h), hX _ _ _ _ h.wet (Fr.of_below hb g.r _), h.dom.later hb.size, h.hk⟩

/-- A cell of the store's own struct is written. -/
theorem StoH.setUsed {w : World} {b : Nat} {g : Gh} {S : St} {k : K4} {X : World → (Nat → Role) → Prop} (h : StoH w b g S k X) (hX : WStay X) (u : Int) : StoH (w.setCell ⟨b, 4, .none⟩ (.int .i64 u)) b g { S with used := u } k X ∧ Fr w (w.setCell ⟨b, 4, .none⟩ (.int .i64 u)) g.r g.r layOf := by
  have hf : Fr w (w.setCell ⟨b, 4, .none⟩ (.int .i64 u)) g.r g.r (fun t => t = .st) := Fr.of_set (by exact h.role)
  refine ⟨⟨h.role, ?_, h.sm.keep fun x hx hlt => hf.block x hlt (by rw [h.sr x hx]; simp), h.sr, h.wm.keep fun x hx hlt => hf.block x hlt (by rw [h.wr x hx]; simp), h.wr,
    fun k' hk' hne => (h.seen k' hk' hne).fr hf (by rintro t (rfl | rfl | rfl) <;> simp) (by simp), hX _ _ _ _ h.wet (hf.mono fun t ht => .inl ht), h.dom.later hf.size, h.hk⟩, hf.mono fun t ht => .inl ht⟩
  have := heap_setCell_same w b 4 _ _ (.int .i64 u) h.heap
  simpa using this
theorem StoH.madeSeen {w : World} {b : Nat} {g : Gh} {S : St} {k : K4} {X : World → (Nat → Role) → Prop} (h : StoH w b g S k X) (hX : WStay X) (hkk : k.ok) (hn : g.sv = .map .none) :
    ∃ g1, StoH ((w.alloc (.map #[] 0)).setCell ⟨b, 2, .none⟩ (.map (some w.heap.size))) b g1 S k X ∧ g1.sv = .map (some w.heap.size) ∧ g1.wv = g.wv ∧ g1.pw = g.pw ∧
      Fr w ((w.alloc (.map #[] 0)).setCell ⟨b, 2, .none⟩ (.map (some w.heap.size))) g.r g1.r layOf := by
  have hw := h.sm
  rw [hn] at hw
  obtain ⟨hp, h0⟩ := hw.nil_inv
  have hlt := h.lt
  have hba : Below w.heap.size w (w.alloc (.map #[] 0)) := (Below.refl _ _).alloc (Nat.le_refl _) _
  have hf1 : Fr w (w.alloc (.map #[] 0)) g.r (setRole g.r w.heap.size .seen) (fun t => t = .st) := (Fr.of_below hba g.r _).newrole fun b hlt => setRole_other _ _ (by omega)
  have hf2 : Fr (w.alloc (.map #[] 0)) ((w.alloc (.map #[] 0)).setCell ⟨b, 2, .none⟩ (.map (some w.heap.size))) (setRole g.r w.heap.size .seen) (setRole g.r w.heap.size .seen) (fun t => t = .st) :=
    Fr.of_set (by show setRole g.r w.heap.size .seen b = .st; rw [setRole_other _ _ (by omega)]; exact h.role)
  have hf := hf1.trans hf2
  have hheap : (w.alloc (.map #[] 0)).heap[b]? = some (.cells #[.int .i64 S.room, .bool S.off, g.sv, g.wv, .int .i64 S.used, .int .i64 S.deeds, .pointer .none] 65) := by
    rw [hba.block b hlt]; exact h.heap
  refine ⟨⟨setRole g.r w.heap.size .seen, .map (some w.heap.size), g.wv, fun _ => .none, g.pw⟩, ⟨?_, ?_, ?_, ?_, ?_, ?_, ?_, ?_, ?_, ?_⟩, rfl, rfl, rfl, hf.mono fun t ht => .inl ht⟩
  · show setRole g.r w.heap.size .seen b = .st
    rw [setRole_other _ _ (by omega)]; exact h.role
  · have := heap_setCell_same (w.alloc (.map #[] 0)) b 2 _ _ (.map (some w.heap.size)) hheap
    simpa using this
  · have := (PMap.made w).keep (w' := (w.alloc (.map #[] 0)).setCell ⟨b, 2, .none⟩ (.map (some w.heap.size))) fun x hx _ => by
      cases hx
      exact RowKit.Below.heap_setCell _ _ _ _ (by simp; omega)
    rw [h0]; exact this
  · intro x hx; cases hx; exact setRole_same _ _ _
  · exact h.wm.keep fun x hx hlt2 => hf.block x hlt2 (by rw [h.wr x hx]; simp)
  · intro x hx
    have hx2 : x < w.heap.size := by have hsm := h.wm; rw [show g.wv = .map (some x) from hx] at hsm; exact hsm.lt
    show setRole g.r w.heap.size .seen x = .wet
    rw [setRole_other _ _ (by omega)]; exact h.wr x hx
  · intro k' hk' hne
    have := h.seen k' hk' hne
    rw [hp k' hk'] at this
    exact OpAt.fr this hf (by intro t ht; rcases ht with rfl | rfl | rfl <;> simp) (by simp)
  · exact hX _ _ _ _ h.wet (hf.mono fun t ht => .inl ht)
  · exact Dom.set (h.dom.later hf.size) _ (by simp)
  · have := h.hk
    rw [hp k hkk] at this
    exact this
/-- The object put. -/
theorem StoH.put {w w' : World} {b : Nat} {g : Gh} {S : St} {k : K4} {X : World → (Nat → Role) → Prop} (h : StoH w b g S k X) (hX : WStay X) {m : Nat} (hm : g.sv = .map (some m)) {x : Nat} {o : Ob} (ho : OpAt w g.r false k (some x) (some o))
    (hmap : PMap w' (.map (some m)) (upd g.pm k (some x)) (if (g.pm k).isSome then S.sks.length else S.sks.length + 1)) (hg : w.grownBy w' (some m)) :
    ∃ g', StoL w' b g' { S with seen := upd S.seen k (some o), sks := if (S.seen k).isSome then S.sks else S.sks ++ [k] } X ∧ g'.pw = g.pw ∧ g'.wv = g.wv ∧ Fr w w' g.r g'.r layOf := by
  have hmr := h.sr m hm
  have hf : Fr w w' g.r g.r (fun t => t = .seen) := Fr.of_grown hg (fun z hz => by cases hz; exact hmr)
  refine ⟨⟨g.r, g.sv, g.wv, upd g.pm k (some x), g.pw⟩, ⟨h.role, by rw [hf.block b h.lt (by rw [h.role]; simp)]; exact h.heap, ?_, h.sr, h.wm.keep fun z hz hlt => hf.block z hlt (by rw [h.wr z hz]; simp), h.wr, ?_, hX _ _ _ _ h.wet (hf.mono fun t ht => .inr ht), h.dom.later hf.size⟩, rfl, rfl, hf.mono fun t ht => .inr ht⟩
  · rw [h.hk] at hmap
    show PMap w' g.sv _ _
    rw [hm]
    cases hS : (S.seen k).isSome <;> simp [hS] at hmap ⊢ <;> exact hmap
  · intro k' hk'
    by_cases e : k' = k
    · subst e
      show OpAt w' g.r false k' (upd g.pm k' (some x) k') (upd S.seen k' (some o) k')
      rw [upd_same, upd_same]
      exact ho.fr hf (by rintro t (rfl | rfl | rfl) <;> simp) (by simp)
    · show OpAt w' g.r false k' (upd g.pm k (some x) k') (upd S.seen k (some o) k')
      rw [upd_other _ _ e, upd_other _ _ e]
      exact (h.seen k' hk' e).fr hf (by rintro t (rfl | rfl | rfl) <;> simp) (by simp)
/-- The object dropped. -/
theorem StoH.drop {w w' : World} {b : Nat} {g : Gh} {S : St} {k : K4} {X : World → (Nat → Role) → Prop} (h : StoH w b g S k X) (hX : WStay X) (hnd : S.sks.Nodup) (hks : k ∈ S.sks ↔ (S.seen k).isSome = true)
    (hmap : PMap w' g.sv (upd g.pm k .none) (if (g.pm k).isSome then S.sks.length - 1 else S.sks.length)) (hg : w.grownBy w' (mapBlock g.sv)) :
    ∃ g', StoL w' b g' { S with seen := upd S.seen k .none, sks := S.sks.filter (fun x => decide (x ≠ k)) } X ∧ g'.pw = g.pw ∧ g'.wv = g.wv ∧ Fr w w' g.r g'.r layOf := by
  have hf : Fr w w' g.r g.r (fun t => t = .seen) := Fr.of_grown hg (fun z hz => by
    cases hsv : g.sv <;> rw [hsv] at hz <;> try (cases hz; done)
    rename_i mo
    have hz2 : mo = some z := hz
    subst hz2
    exact h.sr z hsv)
  have hlen : (S.sks.filter (fun x => decide (x ≠ k))).length = if (g.pm k).isSome then S.sks.length - 1 else S.sks.length := by
    rw [h.hk]
    by_cases hs : (S.seen k).isSome = true
    · rw [if_pos hs]
      have hmem := hks.2 hs
      have e : S.sks.filter (fun x => decide (x ≠ k)) = S.sks.erase k := by
        rw [List.Nodup.erase_eq_filter hnd]
        congr 1
        funext x
        simp [bne, BEq.beq]
      rw [e]
      exact List.length_erase_of_mem hmem
    · rw [if_neg hs]
      have hmem : k ∉ S.sks := fun e => hs (hks.1 e)
      rw [List.filter_eq_self.2]
      intro a ha
      have : a ≠ k := fun e => hmem (e ▸ ha)
      simp [this]
  refine ⟨⟨g.r, g.sv, g.wv, upd g.pm k .none, g.pw⟩, ⟨h.role, by rw [hf.block b h.lt (by rw [h.role]; simp)]; exact h.heap, by rw [hlen]; exact hmap, h.sr, h.wm.keep fun z hz hlt => hf.block z hlt (by rw [h.wr z hz]; simp), h.wr, ?_, hX _ _ _ _ h.wet (hf.mono fun t ht => .inr ht), h.dom.later hf.size⟩, rfl, rfl, hf.mono fun t ht => .inr ht⟩
  intro k' hk'
  by_cases e : k' = k
  · subst e
    show OpAt w' g.r false k' (upd g.pm k' .none k') (upd S.seen k' .none k')
    rw [upd_same, upd_same]
    trivial
  · show OpAt w' g.r false k' (upd g.pm k .none k') (upd S.seen k .none k')
    rw [upd_other _ _ e, upd_other _ _ e]
    exact (h.seen k' hk' e).fr hf (by rintro t (rfl | rfl | rfl) <;> simp) (by simp)
def jY (w0 : World) (b : Nat) (g : Gh) (k : K4) (x : Option Nat) (o : Option Ob) (S' : St) (X : World → (Nat → Role) → Prop) : Nat → World → Prop
  | 0, w => Below w0.heap.size w0 w
  | _, w => StoH w b g S' k X ∧ Fr w0 w g.r g.r layOf ∧ OpAt w g.r false k x o
theorem jY_st {w0 : World} {b : Nat} {g : Gh} {k : K4} {x : Option Nat} {o : Option Ob} {S' : St} {X : World → (Nat → Role) → Prop} (hX : WStay X) (ph : Nat) {w w' : World} (h : jY w0 b g k x o S' X ph w) (hb : Below w.heap.size w w') : jY w0 b g k x o S' X ph w' := by
  match ph, h with
  | 0, h => exact Below.trans h (hb.mono h.size)
  | n + 1, h =>
    obtain ⟨h1, h2, h3⟩ := h
    exact ⟨h1.fr hX hb, h2.later hb, h3.fr (Fr.of_below hb g.r (fun _ => False)) (fun _ _ h => h) (fun h => h)⟩

set_option maxRecDepth 20000 in
theorem lay_any (w : World) (b : Nat) (g : Gh) (S : St) (k : K4) (hk : k.ok) (X : World → (Nat → Role) → Prop) (hX : WStay X) (h : StoH w b g S k X) (x : Option Nat) (o : Option Ob) (ho : OpAt w g.r false k x o) (was : Int) (hS : S.sks.Nodup ∧ (k ∈ S.sks ↔ (S.seen k).isSome = true))
    (hn : ∀ o', o = some o' → o'.bytes.length ≤ 100000 ∧ 0 ≤ o'.named ∧ o'.named ≤ 1099511627776) (hwas : 0 ≤ was ∧ was ≤ 1099511627776) (hu : -1099511627776 ≤ S.used ∧ S.used ≤ 1099511627776) (hln : S.sks.length ≤ 1000000) :
    Calls Try.prog 42 #[.pointer (some ⟨b, 0, .none⟩), kv k, ptrV x, .int .i64 was] w fun e w' =>
      e = .returned (.tuple #[]) ∧ ∃ g', StoL w' b g' (S.laid k o was) X ∧ g'.pw = g.pw ∧ g'.wv = g.wv ∧ Fr w w' g.r g'.r layOf := by
  have q (w : World) (p : Option Nat) := run_eql_map_nil_sl (P := Try.prog) w 61 _ _ p Try.underlying61
  obtain ⟨hu1, hu2⟩ := hu
  obtain ⟨hw1, hw2⟩ := hwas
  have huo : 0 ≤ usedOf o ∧ usedOf o ≤ 1099511727776 := by
    cases o with
    | none => simp [usedOf]
    | some o => obtain ⟨n1, n2, n3⟩ := hn o rfl; simp only [usedOf]; omega
  obtain ⟨huo1, huo2⟩ := huo
  unfold kv
  obtain ⟨w1, hwe⟩ : ∃ w1, w.alloc (.cells #[.int .i64 k.a, .int .i64 k.b, .int .i64 k.c, .int .i64 k.d] 27) = w1 := ⟨_, rfl⟩
  have hb1 : Below w.heap.size w w1 := by rw [← hwe]; exact (Below.refl _ _).alloc (Nat.le_refl _) _
  have hK : KeyAt w1 w.heap.size k := by rw [← hwe]; exact KeyAt.new w k
  have hsz1 : w1.heap.size = w.heap.size + 1 := by rw [← hwe]; simp
  have hj0 : g.r w.heap.size = .junk := h.dom _ (Nat.le_refl _)
  have h1 := h.fr hX hb1
  have hlt1 : b < w1.heap.size := h1.lt
  have HXS := Lib.hid hX
  have c4 : w1.cell? ⟨b, 4, .none⟩ = some (.int .i64 S.used) := cell_of_block h1.heap rfl
  have H1 := Lib.hid h1
  have HO := Lib.hid (ho.fr (Fr.of_below hb1 g.r (fun _ => False)) (fun _ _ h => h) (fun h => h))
  have HN := Lib.hid hn
  have HB := Lib.hid hb1
  have HK := Lib.hid hK
  have HS := Lib.hid hS
  clear h h1 ho hn hb1 hK hS hX
  go_enter Try.func42, Try.ntmps42
  go_upto_region 1 with fail
  clear hwe
-- REG Y1
  refine wp_region_ptab (L := fun ph => match ph with | 0 => [cV (.pointer (some ⟨b, 0, .none⟩)), cV (.pointer (some ⟨b, 0, .none⟩)), cV (.pointer (some ⟨b, 4, .none⟩)), cV (.int .i64 S.used), cV (ptrV x), cV (.int .i64 (usedOf o)), cV (.int .i64 was), cV (.int .i64 (usedOf o - was)), cV (.int .i64 (S.used + (usedOf o - was))), cV (.pointer (some ⟨b, 0, .none⟩)), cV (.pointer (some ⟨b, 4, .none⟩)), tV] | _ => [cV (.pointer (some ⟨b, 0, .none⟩)), cV (.pointer (some ⟨b, 0, .none⟩)), cV (.pointer (some ⟨b, 4, .none⟩)), cV (.int .i64 S.used), cV (ptrV x), cV (.int .i64 (usedOf o)), cV (.int .i64 was), cV (.int .i64 (usedOf o - was)), cV (.int .i64 (S.used + (usedOf o - was))), cV (.pointer (some ⟨b, 0, .none⟩)), cV (.pointer (some ⟨b, 4, .none⟩)), tV]) (jY w1 b g k x o { S with used := S.used + (usedOf o - was) } X) [11] [(0, 0), (0, 0), (0, 0), (0, 0), (0, 0), (0, 0), (0, 0), (0, 0), (0, 0), (0, 0), (0, 0), (0, 1)] [[(0, none)], [(8, some 0)], [(9, some 1)], [(10, some 2)], [(2, none)], [(12, some 4)], [(3, none)], [(13, some 5), (14, some 6)], [(11, some 3), (15, some 7)], [(8, some 0)], [(17, some 9)], [(18, some 10), (16, some 8)]] 12 1 41 (by kernel_rfl) rfl rfl rfl (by kernel_rfl) (by kernel_rfl) (by decide) (by kernel_rfl) ?_ ?_ ?_ ?_ ?_
  · exact fun ph w1 w2 h hb => jY_st HXS.out ph h hb
  · exact Below.refl _ _
  · show ∀ i, i < 12 → _
    iterate 12 (refine fls ?_ ?_)
    · exact fl0
    · intro hne lo hi ph hran hp1 hp2 a w1 hJ hsz hs      -- 0: slot 8
      obtain ⟨rfl, rfl⟩ : 0 = lo ∧ 0 = hi := Prod.mk.inj (Option.some.inj hran)
      obtain rfl : ph = 0 := by omega
      obtain ⟨h0, _⟩ := hs
      have h0 : a.tmps.getD 0 undef = .pointer (some ⟨b, 0, .none⟩) := h0
      refine op_run rfl rfl (v := .pointer (some ⟨b, 0, .none⟩)) (w' := w1) ?_ rfl (Below.refl _ _)
      simp [execOp, Act.eval, h0, go_sem]
    · intro hne lo hi ph hran hp1 hp2 a w1 hJ hsz hs      -- 1: slot 9
      obtain ⟨rfl, rfl⟩ : 0 = lo ∧ 0 = hi := Prod.mk.inj (Option.some.inj hran)
      obtain rfl : ph = 0 := by omega
      obtain ⟨h0, _⟩ := hs
      have h0 : a.tmps.getD 8 undef = .pointer (some ⟨b, 0, .none⟩) := h0
      refine op_run rfl rfl (v := .pointer (some ⟨b, 0, .none⟩)) (w' := w1) ?_ rfl (Below.refl _ _)
      simp [execOp, Act.eval, h0, go_sem]
    · intro hne lo hi ph hran hp1 hp2 a w1 hJ hsz hs      -- 2: slot 10
      obtain ⟨rfl, rfl⟩ : 0 = lo ∧ 0 = hi := Prod.mk.inj (Option.some.inj hran)
      obtain rfl : ph = 0 := by omega
      obtain ⟨h0, _⟩ := hs
      have h0 : a.tmps.getD 9 undef = .pointer (some ⟨b, 0, .none⟩) := h0
      refine op_run rfl rfl (v := .pointer (some ⟨b, 4, .none⟩)) (w' := w1) ?_ rfl (Below.refl _ _)
      simp [execOp, Act.eval, h0, go_sem]
    · intro hne lo hi ph hran hp1 hp2 a w1 hJ hsz hs      -- 3: slot 11
      obtain ⟨rfl, rfl⟩ : 0 = lo ∧ 0 = hi := Prod.mk.inj (Option.some.inj hran)
      obtain rfl : ph = 0 := by omega
      obtain ⟨h0, _⟩ := hs
      have h0 : a.tmps.getD 10 undef = .pointer (some ⟨b, 4, .none⟩) := h0
      have c := (Below.cell hJ (p := ⟨b, 4, .none⟩) hlt1).trans c4
      refine op_run rfl rfl (v := .int .i64 S.used) (w' := w1) ?_ rfl (Below.refl _ _)
      simp [execOp, Act.eval, h0, c, go_sem]
    · intro hne lo hi ph hran hp1 hp2 a w1 hJ hsz hs      -- 4: slot 12
      obtain ⟨rfl, rfl⟩ : 0 = lo ∧ 0 = hi := Prod.mk.inj (Option.some.inj hran)
      obtain rfl : ph = 0 := by omega
      obtain ⟨h0, _⟩ := hs
      have h0 : a.tmps.getD 2 undef = ptrV x := h0
      refine op_run rfl rfl (v := ptrV x) (w' := w1) ?_ rfl (Below.refl _ _)
      simp [execOp, Act.eval, h0, go_sem]
    · intro hne lo hi ph hran hp1 hp2 a w1 hJ hsz hs      -- 5: slot 13
      obtain ⟨rfl, rfl⟩ : 0 = lo ∧ 0 = hi := Prod.mk.inj (Option.some.inj hran)
      obtain rfl : ph = 0 := by omega
      obtain ⟨h0, _⟩ := hs
      have h0 : a.tmps.getD 12 undef = ptrV x := h0
      refine op_call rfl rfl (f := 44) (args := #[ptrV x]) (by simp [execOp, Act.eval, resolve, h0, go_sem]) ?_
      exact (used_any _ g.r false k x o (HO.out.fr (Fr.of_below hJ g.r (fun _ => False)) (fun _ _ h => h) (fun h => h)) HN.out).mono fun e w' h => by
        obtain ⟨rfl, h2⟩ := h
        exact ⟨_, rfl, rfl, h2⟩
    · intro hne lo hi ph hran hp1 hp2 a w1 hJ hsz hs      -- 6: slot 14
      obtain ⟨rfl, rfl⟩ : 0 = lo ∧ 0 = hi := Prod.mk.inj (Option.some.inj hran)
      obtain rfl : ph = 0 := by omega
      obtain ⟨h0, _⟩ := hs
      have h0 : a.tmps.getD 3 undef = .int .i64 was := h0
      refine op_run rfl rfl (v := .int .i64 was) (w' := w1) ?_ rfl (Below.refl _ _)
      simp [execOp, Act.eval, h0, go_sem]
    · intro hne lo hi ph hran hp1 hp2 a w1 hJ hsz hs      -- 7: slot 15
      obtain ⟨rfl, rfl⟩ : 0 = lo ∧ 0 = hi := Prod.mk.inj (Option.some.inj hran)
      obtain rfl : ph = 0 := by omega
      obtain ⟨h0, h1, _⟩ := hs
      have h0 : a.tmps.getD 13 undef = .int .i64 (usedOf o) := h0
      have h1 : a.tmps.getD 14 undef = .int .i64 was := h1
      have c : IntKind.i64.wrap (usedOf o - was) = usedOf o - was := by rw [IntKind.wrap_i64]; omega
      refine op_run rfl rfl (v := .int .i64 (usedOf o - was)) (w' := w1) ?_ rfl (Below.refl _ _)
      simp [execOp, Act.eval, h0, h1, c, go_sem]
    · intro hne lo hi ph hran hp1 hp2 a w1 hJ hsz hs      -- 8: slot 16
      obtain ⟨rfl, rfl⟩ : 0 = lo ∧ 0 = hi := Prod.mk.inj (Option.some.inj hran)
      obtain rfl : ph = 0 := by omega
      obtain ⟨h0, h1, _⟩ := hs
      have h0 : a.tmps.getD 11 undef = .int .i64 S.used := h0
      have h1 : a.tmps.getD 15 undef = .int .i64 (usedOf o - was) := h1
      have c : IntKind.i64.wrap (S.used + (usedOf o - was)) = S.used + (usedOf o - was) := by rw [IntKind.wrap_i64]; omega
      refine op_run rfl rfl (v := .int .i64 (S.used + (usedOf o - was))) (w' := w1) ?_ rfl (Below.refl _ _)
      simp [execOp, Act.eval, h0, h1, c, go_sem]
    · intro hne lo hi ph hran hp1 hp2 a w1 hJ hsz hs      -- 9: slot 17
      obtain ⟨rfl, rfl⟩ : 0 = lo ∧ 0 = hi := Prod.mk.inj (Option.some.inj hran)
      obtain rfl : ph = 0 := by omega
      obtain ⟨h0, _⟩ := hs
      have h0 : a.tmps.getD 8 undef = .pointer (some ⟨b, 0, .none⟩) := h0
      refine op_run rfl rfl (v := .pointer (some ⟨b, 0, .none⟩)) (w' := w1) ?_ rfl (Below.refl _ _)
      simp [execOp, Act.eval, h0, go_sem]
    · intro hne lo hi ph hran hp1 hp2 a w1 hJ hsz hs      -- 10: slot 18
      obtain ⟨rfl, rfl⟩ : 0 = lo ∧ 0 = hi := Prod.mk.inj (Option.some.inj hran)
      obtain rfl : ph = 0 := by omega
      obtain ⟨h0, _⟩ := hs
      have h0 : a.tmps.getD 17 undef = .pointer (some ⟨b, 0, .none⟩) := h0
      refine op_run rfl rfl (v := .pointer (some ⟨b, 4, .none⟩)) (w' := w1) ?_ rfl (Below.refl _ _)
      simp [execOp, Act.eval, h0, go_sem]
    · intro hne lo hi ph hran hp1 hp2 a w1 hJ hsz hs      -- 11: slot None
      exact absurd (by decide) hne
  · show ∀ ph, ph < 1 → _
    iterate 1 (refine fls ?_ ?_)
    · exact fl0
    · intro i hi a w1 hJ hsz hs      -- heavy 0: op 11 slot None
      obtain rfl : 11 = i := Option.some.inj hi
      obtain ⟨h0, h1, _⟩ := hs
      have h0 : a.tmps.getD 18 undef = .pointer (some ⟨b, 4, .none⟩) := h0
      have h1 : a.tmps.getD 16 undef = .int .i64 (S.used + (usedOf o - was)) := h1
      have hcalm : ∀ (wq1 wq2 : World) (kk : Nat) (v0 : Value), kk ≠ 11 → VL [cV (.pointer (some ⟨b, 0, .none⟩)), cV (.pointer (some ⟨b, 0, .none⟩)), cV (.pointer (some ⟨b, 4, .none⟩)), cV (.int .i64 S.used), cV (ptrV x), cV (.int .i64 (usedOf o)), cV (.int .i64 was), cV (.int .i64 (usedOf o - was)), cV (.int .i64 (S.used + (usedOf o - was))), cV (.pointer (some ⟨b, 0, .none⟩)), cV (.pointer (some ⟨b, 4, .none⟩)), tV] kk wq1 v0 → VL [cV (.pointer (some ⟨b, 0, .none⟩)), cV (.pointer (some ⟨b, 0, .none⟩)), cV (.pointer (some ⟨b, 4, .none⟩)), cV (.int .i64 S.used), cV (ptrV x), cV (.int .i64 (usedOf o)), cV (.int .i64 was), cV (.int .i64 (usedOf o - was)), cV (.int .i64 (S.used + (usedOf o - was))), cV (.pointer (some ⟨b, 0, .none⟩)), cV (.pointer (some ⟨b, 4, .none⟩)), tV] kk wq2 v0 := Calm.all (n := 0) ⟨.inl ⟨_, rfl, rfl⟩, .inl ⟨_, rfl, rfl⟩, .inl ⟨_, rfl, rfl⟩, .inl ⟨_, rfl, rfl⟩, .inl ⟨_, rfl, rfl⟩, .inl ⟨_, rfl, rfl⟩, .inl ⟨_, rfl, rfl⟩, .inl ⟨_, rfl, rfl⟩, .inl ⟨_, rfl, rfl⟩, .inl ⟨_, rfl, rfl⟩, .inl ⟨_, rfl, rfl⟩, .inr (.inr rfl), trivial⟩
      obtain ⟨a1, a2⟩ := StoH.setUsed (H1.out.fr HXS.out hJ) HXS.out (S.used + (usedOf o - was))
      refine hv_skip rfl rfl (w' := _) ?_ trivial ⟨a1, (Fr.of_below hJ g.r layOf).trans a2, (HO.out.fr (Fr.of_below hJ g.r (fun _ => False)) (fun _ _ h => h) (fun h => h)).fr a2 (by rintro t (rfl | rfl | rfl) <;> rintro (h | h) <;> cases h) (by rintro (h | h) <;> cases h)⟩ (hcalm _ _)
      have cc := (Below.cell hJ (p := ⟨b, 4, .none⟩) hlt1).trans c4
      have cf := frozen_of_block (H1.out.fr HXS.out hJ).heap 4
      simp [execOp, Act.eval, h0, h1, go_sem, cc, cf]
  · intro f w1 hJ hv
    simp only [Exit.then]
    simp only [putAll, List.foldl_cons, List.foldl_nil, Option.getD_some, Act.put, List.setIfInBounds_toArray, List.set_cons_succ, List.set_cons_zero]
    clear hv c4 hlt1 H1 HO
    obtain ⟨H2, HF2, HO2⟩ := hJ
    rename_i wk
    have hK2 := HK.out.fr HF2 hj0 (by rintro (h | h) <;> cases h)
    have HF := Lib.hid ((Fr.of_below HB.out g.r layOf).trans HF2)
    obtain ⟨S', hS'⟩ : ∃ S', { S with used := S.used + (usedOf o - was) } = S' := ⟨_, rfl⟩
    rw [hS'] at H2
    have HS2 := Lib.hid hS'
    clear hS' HF2 HK
    have hlt2 : b < w1.heap.size := H2.lt
    obtain ⟨k0, k1, k2, k3⟩ := hK2.cells
    obtain ⟨mo, hmo⟩ : ∃ mo, g.sv = .map mo := by
      rcases H2.sm.shape with e | ⟨m, e⟩
      · exact ⟨_, e⟩
      · exact ⟨_, e⟩
    have c2 : w1.cell? ⟨b, 2, .none⟩ = some (.map mo) := hmo ▸ cell_of_block H2.heap rfl
    have f2 : w1.frozen? ⟨b, 2, .none⟩ = false := frozen_of_block H2.heap 2
    have HM := Lib.hid hmo
    clear hmo
    have HL2 : Hid (S'.sks.length ≤ 1000000) := by rw [← HS2.out]; exact Lib.hid hln
    cases x with
    | none =>
      cases o with
      | some o => exact HO2.elim
      | none =>
        have hWF : S'.sks.Nodup ∧ (k ∈ S'.sks ↔ (S'.seen k).isSome = true) := by
          rw [← HS2.out]
          exact HS.out
        obtain ⟨w2, hrun, hmap, hgr⟩ := PMap.drop (w := w1.drew) (mv := g.sv) (H2.sm.keep fun _ _ _ => rfl) Try.underlying61 hk 0
        rw [HM.out] at hrun
        unfold kv at hrun
        have HST := Lib.hid (H2.drop HXS.out hWF.1 hWF.2 hmap (by obtain ⟨a1, a2, a3, a4, a5⟩ := hgr; exact ⟨a1, a2, a3, a4, a5⟩))
        clear hmap hgr H2 hK2 hWF HO2
        simp only [ptrV, Option.map]
        go_wp2_with fail
        go_region
        simp only [Exit.then]
        clear hrun
        go_wp2_with fail
        refine bodyPost_ret (results_none rfl _ _ _) rfl ?_
        obtain ⟨g', a1, a2, a3, a4⟩ := HST.out
        refine ⟨rfl, g', ?_, a2, a3, HF.out.trans a4⟩
        have e := HS2.out
        subst e
        exact a1
    | some x =>
      cases o with
      | none => exact HO2.elim
      | some o =>
        have H3 := Lib.hid H2
        have HO3 := Lib.hid HO2
        have HK3 := Lib.hid hK2
        clear H2 HO2 hK2
        simp only [ptrV, Option.map]
        go_upto_if 30 with fail
        have hmm := @run_makeMap Try.prog
        go_cut [] (fun wx => ∃ g1 m, StoH wx b g1 S' k X ∧ g1.sv = .map (some m) ∧ g1.pw = g.pw ∧ g1.wv = g.wv ∧ Fr w1 wx g.r g1.r layOf)
        case first =>
          cases mo with
          | none =>
            have f2b : (w1.alloc (.map #[] 0)).frozen? ⟨b, 2, .none⟩ = false := frozen_of_block (H3.out.fr HXS.out ((Below.refl _ _).alloc (Nat.le_refl _) _)).heap 2
            have c2b : (w1.alloc (.map #[] 0)).cell? ⟨b, 2, .none⟩ = some (.map .none) := HM.out ▸ cell_of_block (H3.out.fr HXS.out ((Below.refl _ _).alloc (Nat.le_refl _) _)).heap rfl
            have H4 := Lib.hid (StoH.madeSeen H3.out HXS.out hk HM.out)
            go_wp2_with fail
            go_meet
            obtain ⟨g1, a1, a2, a3, a4, a5⟩ := H4.out
            rw [World.setCell_alloc_past (hn := hlt2)] at a1 a5
            exact ⟨g1, _, a1, a2, a4, a3, a5⟩
          | some m =>
            go_wp2_with fail
            go_meet
            exact ⟨g, m, H3.out, HM.out, rfl, rfl, Fr.refl _ _ _⟩
        case rest =>
          obtain ⟨g1, m, h5, hm5, hpw5, hwv5, hf5⟩ := hcut
          have ho5 := HO3.out.fr hf5 (by rintro t (rfl | rfl | rfl) <;> rintro (h | h) <;> cases h) (by rintro (h | h) <;> cases h)
          have hK5 := HK3.out.fr hf5 hj0 (by rintro (h | h) <;> cases h)
          obtain ⟨w2, hrun, hmap, hgr⟩ := PMap.put (w := wc.drew) (pm := g1.pm) (b := m) (n := S'.sks.length) (h := (hm5 ▸ h5.sm).keep fun _ _ _ => rfl) Try.underlying61 (by have := HL2.out; unfold maxLen; omega) hk x
          have HST := Lib.hid (h5.put HXS.out hm5 ho5 hmap (by obtain ⟨a1, a2, a3, a4, a5⟩ := hgr; exact ⟨a1, a2, a3, a4, a5⟩))
          have c2c : wc.cell? ⟨b, 2, .none⟩ = some (.map (some m)) := hm5 ▸ cell_of_block h5.heap rfl
          obtain ⟨q0, q1, q2, q3⟩ := hK5.cells
          unfold kv at hrun
          simp only [ptrV, Option.map] at hrun
          have HF5 := Lib.hid (And.intro hpw5 (And.intro hwv5 hf5))
          clear hmap hgr h5 ho5 hK5 hmm hpw5 hwv5 hf5 hm5 c2 f2 k0 k1 k2 k3
          go_upto_region 6 with fail
          go_region
          clear hrun
          try simp only [Exit.then]
          go_wp2_with fail
          go_end0
          obtain ⟨g', a1, a2, a3, a4⟩ := HST.out
          obtain ⟨b1, b2, b3⟩ := HF5.out
          refine ⟨rfl, g', ?_, a2.trans b1, a3.trans b2, (HF.out.trans b3).trans a4⟩
          have e := HS2.out
          subst e
          exact a1
-- END Y1
end Go.Proofs.Ytgjdabneodkmpaa
