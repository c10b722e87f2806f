/- The store in memory: objects, wet deeds, the whole; what stays when other blocks are written. -/
import Derived.Test.YtgjdabneodkmpaaSt
namespace Go.Proofs.Ytgjdabneodkmpaa
open Go.RowKit
set_option linter.unusedVariables false

/-! ### the plain model -/
structure Ob where
  bytes : List UInt8
  attrs : List UInt8 → List UInt8
  named : Int
structure Deed where
  kind : Int
  at_ : Int
  name : List UInt8
  data : List UInt8
structure Past where
  dry : Option Ob
  deeds : List Deed
structure St where
  room : Int
  off : Bool
  seen : K4 → Option Ob
  sks : List K4
  wet : K4 → Option Past
  wks : List K4
  used : Int
  deeds : Int
def Ob.none : Ob := ⟨[], fun _ => [], 0⟩
def usedOf : Option Ob → Int
  | .none => 0
  | some o => o.bytes.length + o.named

/-! ### whose block is it -/
inductive Role where
  | junk | own | st | seen | wet | fuse
  | ob (p : Bool) (k : K4)
  | by (p : Bool) (k : K4)
  | at_ (p : Bool) (k : K4)
  | pa (k : K4)
  | de (k : K4)
deriving DecidableEq

/-- From w to w' the blocks of the roles that Z bars not stay, and each old block's role. -/
structure Fr (w w' : World) (r r' : Nat → Role) (Z : Role → Prop) : Prop where
  os : w'.os = w.os
  tape : w'.tape = w.tape
  output : w'.output = w.output
  size : w.heap.size ≤ w'.heap.size
  block : ∀ b, b < w.heap.size → ¬ Z (r b) → w'.heap[b]? = w.heap[b]?
  role : ∀ b, b < w.heap.size → r' b = r b
theorem Fr.refl (w : World) (r : Nat → Role) (Z : Role → Prop) : Fr w w r r Z := ⟨rfl, rfl, rfl, Nat.le_refl _, fun _ _ _ => rfl, fun _ _ => rfl⟩
theorem Fr.trans {w w1 w2 : World} {r r1 r2 : Nat → Role} {Z : Role → Prop} (h : Fr w w1 r r1 Z) (k : Fr w1 w2 r1 r2 Z) : Fr w w2 r r2 Z :=
  ⟨k.os.trans h.os, k.tape.trans h.tape, k.output.trans h.output, Nat.le_trans h.size k.size,
   fun b hb hz => (k.block b (Nat.lt_of_lt_of_le hb h.size) (by rw [h.role b hb]; exact hz)).trans (h.block b hb hz), fun b hb => (k.role b (Nat.lt_of_lt_of_le hb h.size)).trans (h.role b hb)⟩
theorem Fr.mono {w w' : World} {r r' : Nat → Role} {Z Z' : Role → Prop} (h : Fr w w' r r' Z) (hz : ∀ x, Z x → Z' x) : Fr w w' r r' Z' :=
  ⟨h.os, h.tape, h.output, h.size, fun b hb hn => h.block b hb (fun x => hn (hz _ x)), h.role⟩
/-- Nothing but new blocks. -/
theorem Fr.of_below {w w' : World} (h : Below w.heap.size w w') (r : Nat → Role) (Z : Role → Prop) : Fr w w' r r Z :=
  ⟨h.os, h.tape, h.output, h.size, fun b hb _ => h.block b hb, fun _ _ => rfl⟩
theorem Fr.below {w w' : World} {r r' : Nat → Role} (h : Fr w w' r r' (fun _ => False)) : Below w.heap.size w w' :=
  ⟨h.os, h.tape, h.output, h.size, fun b hb => h.block b hb (fun x => x)⟩
theorem Fr.of_grown {w w' : World} {row : Option Nat} (h : w.grownBy w' row) {r : Nat → Role} {Z : Role → Prop} (hz : ∀ b, row = some b → Z (r b)) : Fr w w' r r Z := by
  obtain ⟨h1, h2, h3, h4, h5⟩ := h
  exact ⟨h1, h2, h3, h4, fun b hb hn => h5 b hb (fun e => hn (hz b e.symm)), fun _ _ => rfl⟩
theorem Fr.of_set {w : World} {a : Addr} {v : Value} {r : Nat → Role} {Z : Role → Prop} (hz : Z (r a.block)) : Fr w (w.setCell a v) r r Z := by
  refine ⟨rfl, rfl, rfl, ?_, fun b hb hn => ?_, fun _ _ => rfl⟩
  · exact ((Below.refl 0 w).setCell (Nat.zero_le _) v).size
  · exact RowKit.Below.heap_setCell _ _ _ _ (fun e => hn (by rw [e]; exact hz))
/-- A role for new blocks alone. -/
def rolesFrom (r : Nat → Role) (n : Nat) (r2 : Nat → Role) : Nat → Role := fun b => if b < n then r b else r2 b
theorem Fr.reroll {w w' : World} {r r' : Nat → Role} {Z : Role → Prop} (h : Fr w w' r r' Z) (r2 : Nat → Role) : Fr w w' r (rolesFrom r w.heap.size r2) Z :=
  ⟨h.os, h.tape, h.output, h.size, h.block, fun b hb => by simp [rolesFrom, hb]⟩

/-! ### rows of bytes -/
/-- Bytes of one's own, from the head of a block on. -/
def BRow (w : World) (v : Value) (l : List UInt8) : Prop := w.ownsRow 0 5 1 v l.length (l.map B8)
theorem BRow.nil (w : World) : BRow w (.slice .none 0 0) [] := World.ownsRow_nil w 0 _ 1
theorem BRow.keep {w w' : World} {v : Value} {l : List UInt8} (h : BRow w v l) (hb : ∀ g, v.ownBlock = some g → g < w.heap.size → w'.heap[g]? = w.heap[g]?) : BRow w' v l := by
  have hlt := fun k hk => (World.ownsRow.lt h k hk).2
  refine ⟨h.1, ?_⟩
  rcases h.2 with hv | ⟨g, cap, cur, hv, hb2, hg, rest⟩
  · exact .inl hv
  · exact .inr ⟨g, cap, cur, hv, hb2, by rw [hb g (by rw [hv]; rfl) (Array.getElem?_eq_some_iff.1 hg).1]; exact hg, rest⟩
theorem BRow.own {w : World} {v : Value} {l : List UInt8} (h : BRow w v l) : ∃ w0 : World, w0.heap.size = 0 ∧ w.ownsRow w0.heap.size 5 1 v l.length (l.map B8) := ⟨{ w with heap := #[] }, rfl, h⟩
theorem BRow.row {w : World} {v : Value} {l : List UInt8} (h : BRow w v l) : ∃ a cap, v = .slice a l.length cap ∧ Row w a cap l ∧ (∀ x, a = some x → v.ownBlock = some x.block) := by
  rcases h.2 with ⟨hv, hn⟩ | ⟨g, cap, cur, hv, hb, hg, hn, hc, hs, ht⟩
  · have : l = [] := List.length_eq_zero_iff.1 hn
    subst this
    exact ⟨.none, 0, hv, Row.none w, fun x hx => by cases hx⟩
  · refine ⟨_, cap, hv, ⟨hn, hc, fun e => (by cases e), fun x hx i u hu => ?_⟩, fun x hx => by cases hx; rw [hv]; rfl⟩
    cases hx
    have hr := h
    rw [hv] at hr
    have hi : i < l.length := (List.getElem?_eq_some_iff.1 hu).1
    have := World.ownsRow.cellAt hr i (by omega)
    rw [List.getElem?_map, hu] at this
    have e : (⟨g, 0, .none⟩ : Addr).add i = ⟨g, i, .none⟩ := by unfold Addr.add; split <;> simp_all
    rw [e]; exact this
/-- Bytes that nobody writes any more: in blocks of no role. -/
def Shr (w : World) (r : Nat → Role) (v : Value) (l : List UInt8) : Prop := ∃ a cap, v = .slice a l.length cap ∧ Row w a cap l ∧ ∀ x, a = some x → x.block < w.heap.size ∧ r x.block = .junk
theorem Row.keep {w w' : World} {a : Option Addr} {cap : Nat} {l : List UInt8} (h : Row w a cap l) (hb : ∀ x, a = some x → x.block < w.heap.size → w'.heap[x.block]? = w.heap[x.block]?) : Row w' a cap l := by
  refine ⟨h.1, h.2.1, h.2.2.1, fun x hx i u hu => ?_⟩
  have h1 := h.2.2.2 x hx i u hu
  have e : (x.add i).block = x.block := by unfold Addr.add; split <;> rfl
  have hlt := World.block_lt_of_cell? w _ h1
  rw [e] at hlt
  have e2 : w'.cell? (x.add i) = w.cell? (x.add i) := World.cell?_of_block (by rw [e]; exact hb x hx hlt)
  rw [e2]; exact h1
theorem Shr.fr {w w' : World} {r r' : Nat → Role} {Z : Role → Prop} {v : Value} {l : List UInt8} (h : Shr w r v l) (hf : Fr w w' r r' Z) (hz : ¬ Z .junk) : Shr w' r' v l := by
  obtain ⟨a, cap, hv, hr, hj⟩ := h
  exact ⟨a, cap, hv, hr.keep (fun x hx hx2 => hf.block _ hx2 (by rw [(hj x hx).2]; exact hz)), fun x hx => ⟨Nat.lt_of_lt_of_le (hj x hx).1 hf.size, by rw [hf.role _ (hj x hx).1]; exact (hj x hx).2⟩⟩

/-! ### objects -/
/-- Attributes: each name's bytes; none: it isn't there. -/
def slE (v : Value) : Option (DataW Value × List MemPlace) := match v with
  | .slice a n c => some (.held (.slice a n c), [])
  | _ => none
/-- What an attribute takes up; all of them, each once. -/
def wOf (f : List UInt8 → List UInt8) (s : List UInt8) : Int := (s.length : Int) + ((f s).length : Int)
def AttrSum (f : List UInt8 → List UInt8) (z : Int) (n : Nat) : Prop := ∃ ns : List (List UInt8), ns.Nodup ∧ (∀ s, f s ≠ [] ↔ s ∈ ns) ∧ ns.length = n ∧ z = (ns.map (wOf f)).sum
def AttrAt (w : World) (r : Nat → Role) (p : Bool) (k : K4) (av : Value) (f : List UInt8 → List UInt8) (z : Int) : Prop :=
  (av = .map .none ∧ (∀ s, f s = []) ∧ z = 0) ∨
  ∃ b n D, av = .map (some b) ∧ r b = .at_ p k ∧ w.ownsMap Try.prog 9 slE b n D ∧ (∀ s : List UInt8, s.length ≤ maxLen → ∃ v, D.atKey (.string s) (.held (.slice .none 0 0)) = .held v ∧ Shr w r v (f s)) ∧
    (∀ s : List UInt8, Go.Maps.has D (.string s) = !(f s).isEmpty) ∧ AttrSum f z (Go.Maps.size D)

structure ObAt (w : World) (r : Nat → Role) (p : Bool) (k : K4) (x : Nat) (bv av : Value) (o : Ob) : Prop where
  role : r x = .ob p k
  heap : w.heap[x]? = some (.cells #[bv, av, .int .i64 o.named] 75)
  row : BRow w bv o.bytes
  rrow : ∀ g, bv.ownBlock = some g → r g = .by p k
  attrs : AttrAt w r p k av o.attrs o.named
def ObX (w : World) (r : Nat → Role) (p : Bool) (k : K4) (x : Nat) (o : Ob) : Prop := ∃ bv av, ObAt w r p k x bv av o
/-- The roles of what an object is made of. -/
def ofOb (p : Bool) (k : K4) (x : Role) : Prop := x = .ob p k ∨ x = .by p k ∨ x = .at_ p k
theorem BRow.fr {w w' : World} {r r' : Nat → Role} {Z : Role → Prop} {v : Value} {l : List UInt8} (h : BRow w v l) (hf : Fr w w' r r' Z) (hz : ∀ g, v.ownBlock = some g → ¬ Z (r g)) : BRow w' v l :=
  h.keep fun g hg hlt => hf.block g hlt (hz g hg)
theorem BRow.role {w w' : World} {r r' : Nat → Role} {Z : Role → Prop} {v : Value} {l : List UInt8} (h : BRow w v l) (hf : Fr w w' r r' Z) {t : Role} (hr : ∀ g, v.ownBlock = some g → r g = t) : ∀ g, v.ownBlock = some g → r' g = t := fun g hg => by
  rw [hf.role g (World.ownsRow.lt h g hg).2]; exact hr g hg
theorem AttrAt.fr {w w' : World} {r r' : Nat → Role} {Z : Role → Prop} {p : Bool} {k : K4} {av : Value} {f : List UInt8 → List UInt8} {z : Int} (h : AttrAt w r p k av f z) (hf : Fr w w' r r' Z) (hz : ¬ Z (.at_ p k)) (hj : ¬ Z .junk) : AttrAt w' r' p k av f z := by
  rcases h with h | ⟨b, n, D, hv, hr, ho, hs, hq⟩
  · exact .inl h
  · have hlt := ho.lt
    refine .inr ⟨b, n, D, hv, by rw [hf.role b hlt]; exact hr, ?_, fun s hl => ?_, hq⟩
    · obtain ⟨es, clock, h2, rest⟩ := ho
      exact ⟨es, clock, by rw [hf.block b hlt (by rw [hr]; exact hz)]; exact h2, rest⟩
    · obtain ⟨v, h1, h2⟩ := hs s hl
      exact ⟨v, h1, h2.fr hf hj⟩
theorem ObAt.lt {w : World} {r : Nat → Role} {p : Bool} {k : K4} {x : Nat} {bv av : Value} {o : Ob} (h : ObAt w r p k x bv av o) : x < w.heap.size := (Array.getElem?_eq_some_iff.1 h.heap).1
theorem ObAt.fr {w w' : World} {r r' : Nat → Role} {Z : Role → Prop} {p : Bool} {k : K4} {x : Nat} {bv av : Value} {o : Ob} (h : ObAt w r p k x bv av o) (hf : Fr w w' r r' Z) (hz : ∀ t, ofOb p k t → ¬ Z t) (hj : ¬ Z .junk) : ObAt w' r' p k x bv av o where
  role := by rw [hf.role x h.lt]; exact h.role
  heap := by rw [hf.block x h.lt (by rw [h.role]; exact hz _ (.inl rfl))]; exact h.heap
  row := h.row.fr hf (fun g hg => by rw [h.rrow g hg]; exact hz _ (.inr (.inl rfl)))
  rrow := h.row.role hf h.rrow
  attrs := h.attrs.fr hf (hz _ (.inr (.inr rfl))) hj
theorem ObX.fr {w w' : World} {r r' : Nat → Role} {Z : Role → Prop} {p : Bool} {k : K4} {x : Nat} {o : Ob} (h : ObX w r p k x o) (hf : Fr w w' r r' Z) (hz : ∀ t, ofOb p k t → ¬ Z t) (hj : ¬ Z .junk) : ObX w' r' p k x o := by
  obtain ⟨bv, av, h⟩ := h
  exact ⟨bv, av, h.fr hf hz hj⟩
def OpAt (w : World) (r : Nat → Role) (p : Bool) (k : K4) : Option Nat → Option Ob → Prop
  | .none, .none => True
  | some x, some o => ObX w r p k x o
  | _, _ => False
theorem OpAt.fr {w w' : World} {r r' : Nat → Role} {Z : Role → Prop} {p : Bool} {k : K4} {x : Option Nat} {o : Option Ob} (h : OpAt w r p k x o) (hf : Fr w w' r r' Z) (hz : ∀ t, ofOb p k t → ¬ Z t) (hj : ¬ Z .junk) : OpAt w' r' p k x o := by
  cases x <;> cases o <;> simp only [OpAt] at h ⊢
  exact h.fr hf hz hj

/-! ### wet deeds -/
def dcells (d : Deed) (v : Value) : List Value := [.int .i64 d.kind, .int .i64 d.at_, .string ⟨d.name.toArray⟩, v]
def DRow (w : World) (r : Nat → Role) (dv : Value) (ds : List Deed) : Prop :=
  ∃ vs : List Value, vs.length = ds.length ∧ w.ownsRow 0 69 4 dv ds.length ((ds.zip vs).flatMap fun x => dcells x.1 x.2) ∧ ∀ (i : Nat) (d : Deed) (v : Value), ds[i]? = some d → vs[i]? = some v → Shr w r v d.data
theorem DRow.fr {w w' : World} {r r' : Nat → Role} {Z : Role → Prop} {dv : Value} {ds : List Deed} (h : DRow w r dv ds) (hf : Fr w w' r r' Z) (hz : ∀ g, dv.ownBlock = some g → ¬ Z (r g)) (hj : ¬ Z .junk) : DRow w' r' dv ds := by
  obtain ⟨vs, hl, ho, hs⟩ := h
  refine ⟨vs, hl, ⟨ho.1, ?_⟩, fun i d v h1 h2 => (hs i d v h1 h2).fr hf hj⟩
  rcases ho.2 with hv | ⟨g, cap, cur, hv, hb2, hg, rest⟩
  · exact .inl hv
  · exact .inr ⟨g, cap, cur, hv, hb2, by rw [hf.block g (Array.getElem?_eq_some_iff.1 hg).1 (hz g (by rw [hv]; rfl))]; exact hg, rest⟩
structure PaAt (w : World) (r : Nat → Role) (k : K4) (x : Nat) (dp : Option Nat) (dv : Value) (p : Past) : Prop where
  role : r x = .pa k
  heap : w.heap[x]? = some (.cells #[ptrV dp, dv] 100)
  dry : OpAt w r true k dp p.dry
  row : DRow w r dv p.deeds
  rrow : ∀ g, dv.ownBlock = some g → r g = .de k
def ofPa (k : K4) (t : Role) : Prop := t = .pa k ∨ t = .de k ∨ ofOb true k t
theorem PaAt.lt {w : World} {r : Nat → Role} {k : K4} {x : Nat} {dp : Option Nat} {dv : Value} {p : Past} (h : PaAt w r k x dp dv p) : x < w.heap.size := (Array.getElem?_eq_some_iff.1 h.heap).1
theorem PaAt.fr {w w' : World} {r r' : Nat → Role} {Z : Role → Prop} {k : K4} {x : Nat} {dp : Option Nat} {dv : Value} {p : Past} (h : PaAt w r k x dp dv p) (hf : Fr w w' r r' Z) (hz : ∀ t, ofPa k t → ¬ Z t) (hj : ¬ Z .junk) : PaAt w' r' k x dp dv p where
  role := by rw [hf.role x h.lt]; exact h.role
  heap := by rw [hf.block x h.lt (by rw [h.role]; exact hz _ (.inl rfl))]; exact h.heap
  dry := h.dry.fr hf (fun t ht => hz t (.inr (.inr ht))) hj
  row := h.row.fr hf (fun g hg => by rw [h.rrow g hg]; exact hz _ (.inr (.inl rfl))) hj
  rrow := fun g hg => by
    obtain ⟨vs, hl, ho, hs⟩ := h.row
    rw [hf.role g (World.ownsRow.lt ho g hg).2]; exact h.rrow g hg
def PpAt (w : World) (r : Nat → Role) (k : K4) : Option Nat → Option Past → Prop
  | .none, .none => True
  | some x, some p => ∃ dp dv, PaAt w r k x dp dv p
  | _, _ => False
theorem PpAt.fr {w w' : World} {r r' : Nat → Role} {Z : Role → Prop} {k : K4} {x : Option Nat} {o : Option Past} (h : PpAt w r k x o) (hf : Fr w w' r r' Z) (hz : ∀ t, ofPa k t → ¬ Z t) (hj : ¬ Z .junk) : PpAt w' r' k x o := by
  cases x <;> cases o <;> simp only [PpAt] at h ⊢
  obtain ⟨dp, dv, h⟩ := h
  exact ⟨dp, dv, h.fr hf hz hj⟩

/-! ### the whole -/
structure Gh where
  r : Nat → Role
  sv : Value
  wv : Value
  pm : K4 → Option Nat
  pw : K4 → Option Nat
structure St.WF (S : St) : Prop where
  room : 0 ≤ S.room ∧ S.room ≤ 1048576
  nd : S.sks.Nodup ∧ S.wks.Nodup
  sks : ∀ k, k ∈ S.sks ↔ ((S.seen k).isSome = true ∧ k.ok)
  wks : ∀ k, k ∈ S.wks ↔ ((S.wet k).isSome = true ∧ k.ok)
  seen : ∀ k o, S.seen k = some o → o.bytes.length ≤ 16384 ∧ 0 ≤ o.named
structure Sto (w : World) (b : Nat) (g : Gh) (S : St) : Prop where
  role : g.r b = .st
  heap : w.heap[b]? = some (.cells #[.int .i64 S.room, .bool S.off, g.sv, g.wv, .int .i64 S.used, .int .i64 S.deeds, .pointer .none] 65)
  sm : PMap w g.sv g.pm S.sks.length
  sr : ∀ x, g.sv = .map (some x) → g.r x = .seen
  wm : PMap w g.wv g.pw S.wks.length
  wr : ∀ x, g.wv = .map (some x) → g.r x = .wet
  seen : ∀ k, k.ok → OpAt w g.r false k (g.pm k) (S.seen k)
  wet : ∀ k, k.ok → PpAt w g.r k (g.pw k) (S.wet k)
  dom : ∀ x, w.heap.size ≤ x → g.r x = .junk
theorem Sto.lt {w : World} {b : Nat} {g : Gh} {S : St} (h : Sto w b g S) : b < w.heap.size := (Array.getElem?_eq_some_iff.1 h.heap).1
/-- Nothing of the store is written. -/
theorem Sto.fr {w w' : World} {b : Nat} {g : Gh} {S : St} (h : Sto w b g S) {Z : Role → Prop} (hf : Fr w w' g.r g.r Z) (hz : ∀ t, ¬ Z t) : Sto w' b g S where
  role := h.role
  heap := by rw [hf.block b h.lt (hz _)]; exact h.heap
  sm := h.sm.keep fun x _ hlt => hf.block x hlt (hz _)
  sr := h.sr
  wm := h.wm.keep fun x _ hlt => hf.block x hlt (hz _)
  wr := h.wr
  seen := fun k hk => (h.seen k hk).fr hf (fun _ _ => hz _) (hz _)
  wet := fun k hk => (h.wet k hk).fr hf (fun _ _ => hz _) (hz _)
  dom := fun x hx => h.dom x (Nat.le_trans hf.size hx)
theorem Sto.later {w w' : World} {b : Nat} {g : Gh} {S : St} (h : Sto w b g S) (hb : Below w.heap.size w w') : Sto w' b g S := h.fr (Fr.of_below hb g.r (fun _ => False)) (fun _ x => x)
def Dom (w : World) (r : Nat → Role) : Prop := ∀ y, w.heap.size ≤ y → r y = .junk
theorem Dom.later {w w' : World} {r : Nat → Role} (h : Dom w r) (hb : w.heap.size ≤ w'.heap.size) : Dom w' r := fun y hy => h y (Nat.le_trans hb hy)
/-- New roles for new blocks. -/
theorem Fr.newrole {w w' : World} {r r1 : Nat → Role} {Z : Role → Prop} (h : Fr w w' r r Z) (h1 : ∀ b, b < w.heap.size → r1 b = r b) : Fr w w' r r1 Z :=
  ⟨h.os, h.tape, h.output, h.size, h.block, h1⟩
def setRole (r : Nat → Role) (x : Nat) (t : Role) : Nat → Role := fun b => if b = x then t else r b
theorem setRole_same (r : Nat → Role) (x : Nat) (t : Role) : setRole r x t x = t := by simp [setRole]
theorem setRole_other (r : Nat → Role) {x b : Nat} (t : Role) (h : b ≠ x) : setRole r x t b = r b := by simp [setRole, h]
theorem Dom.set {w : World} {r : Nat → Role} (h : Dom w r) {x : Nat} (t : Role) (hx : x < w.heap.size) : Dom w (setRole r x t) := fun y hy => by
  rw [setRole_other r t (by omega)]; exact h y hy

end Go.Proofs.Ytgjdabneodkmpaa
