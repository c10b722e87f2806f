/- Deeds: what each does to an object. -/
import Derived.Test.YtgjdabneodkmpaaStAs
import Derived.Test.YtgjdabneodkmpaaRec
namespace Go.Proofs.Ytgjdabneodkmpaa
open Go.RowKit
set_option linter.unusedVariables false

def doneD (d : Deed) (o : Option Ob) : Option Ob :=
  if d.kind = 0 then some Ob.none else if d.kind = 3 then .none else if d.kind = 1 then o.map fun o => o.wr d.at_.toNat d.data else if d.kind = 2 then o.map fun o => o.cut d.at_ else if d.kind = 4 then o.map fun o => o.set d.name d.data else o
def canD (d : Deed) (o : Option Ob) : Prop :=
  d.kind = 0 ∨ d.kind = 3 ∨ (d.kind = 1 ∧ o.isSome = true ∧ 0 ≤ d.at_ ∧ d.at_ + d.data.length ≤ 16384) ∨ (d.kind = 2 ∧ o.isSome = true) ∨
    (d.kind = 4 ∧ o.isSome = true ∧ d.name.length ≤ 20 ∧ d.data.length ≤ 4096 ∧ ∀ o', o = some o' → 0 ≤ o'.named + growA o'.attrs d.name d.data ∧ o'.named ≤ 1000000000000)
def deedV (d : Deed) (dv : Value) : Value := .agg #[.int .i64 d.kind, .int .i64 d.at_, .string ⟨d.name.toArray⟩, dv]

/-- What a done deed leaves. -/
def DonePost (w : World) (r : Nat → Role) (p : Bool) (k : K4) (o : Option Ob) (e : Ending) (w' : World) : Prop :=
  ∃ x r', e = .returned (ptrV x) ∧ Fr w w' r r' (ofOb p k) ∧ Dom w' r' ∧ OpAt w' r' p k x o
theorem byOf_ofOb (p : Bool) (k : K4) (t : Role) (h : byOf p k t) : ofOb p k t := by
  rcases h with h | h
  · exact .inl h
  · exact .inr (.inl h)

theorem done_make (w : World) (r : Nat → Role) (p : Bool) (k : K4) (x : Value) (hdom : Dom w r) (d : Deed) (dv : Value) (h1 : d.kind = 0) :
    Calls Try.prog 61 #[deedV d dv, x] w fun e w' => DonePost w r p k (some Ob.none) e w' := by
  obtain ⟨kd, at_, nm, da⟩ := d
  simp only at h1
  subst h1
  unfold deedV
  have HD := Lib.hid hdom
  clear hdom
  go_enter Try.func61, Try.ntmps61
  go_wp2_with fail
  go_ret
  obtain ⟨w1, hw1⟩ : ∃ w1, w.alloc (Obj.cells #[Value.int IntKind.i64 0, Value.int IntKind.i64 at_, Value.string { data := nm.toArray }, dv] 69) = w1 := ⟨_, rfl⟩
  have hsz : w1.heap.size = w.heap.size + 1 := by rw [← hw1]; simp
  have hb1 : Below w.heap.size w w1 := by rw [← hw1]; exact (Below.refl _ _).alloc (Nat.le_refl _) _
  rw [hw1]
  clear hw1
  have hb2 : Below w1.heap.size w1 (w1.alloc (Obj.cells #[Value.slice none 0 0, Value.map none, Value.int IntKind.i64 0] 75)) := (Below.refl _ _).alloc (Nat.le_refl _) _
  have hb := hb1.trans (hb2.mono hb1.size)
  refine ⟨some w1.heap.size, setRole r w1.heap.size (.ob p k), ?_, (Fr.of_below hb r _).newrole fun b hlt => setRole_other r _ (by omega), (Dom.later HD.out hb.size).set _ (by simp), ⟨.slice .none 0 0, .map .none, ?_⟩⟩
  · rw [hsz]; rfl
  · refine ⟨setRole_same _ _ _, (MapKept.heap_alloc w1 _).1, BRow.nil _, fun g hg => (nomatch hg), Or.inl ⟨rfl, fun _ => rfl, rfl⟩⟩

theorem done_drop (w : World) (r : Nat → Role) (p : Bool) (k : K4) (x : Value) (hdom : Dom w r) (d : Deed) (dv : Value) (h1 : d.kind = 3) :
    Calls Try.prog 61 #[deedV d dv, x] w fun e w' => DonePost w r p k .none e w' := by
  obtain ⟨kd, at_, nm, da⟩ := d
  simp only at h1
  subst h1
  unfold deedV
  have HD := Lib.hid hdom
  clear hdom
  go_enter Try.func61, Try.ntmps61
  go_wp2_with fail
  go_ret
  have hb : Below w.heap.size w (w.alloc (Obj.cells #[Value.int IntKind.i64 3, Value.int IntKind.i64 at_, Value.string { data := nm.toArray }, dv] 69)) := (Below.refl _ _).alloc (Nat.le_refl _) _
  exact ⟨.none, r, rfl, Fr.of_below hb r _, Dom.later HD.out hb.size, trivial⟩

theorem done_write (w : World) (r : Nat → Role) (p : Bool) (k : K4) (x : Nat) (o : Ob) (h : ObX w r p k x o) (hl : o.bytes.length ≤ 16384) (hdom : Dom w r) (d : Deed) (dv : Value) (hs : Shr w r dv d.data) (h1 : d.kind = 1) (ha : 0 ≤ d.at_) (hb : d.at_ + d.data.length ≤ 16384) :
    Calls Try.prog 61 #[deedV d dv, .pointer (some ⟨x, 0, .none⟩)] w fun e w' => DonePost w r p k (some (o.wr d.at_.toNat d.data)) e w' := by
  obtain ⟨kd, at_, nm, da⟩ := d
  simp only at h1 ha hb hs ⊢
  subst h1
  obtain ⟨off, rfl⟩ := Int.eq_ofNat_of_zero_le ha
  obtain ⟨ad, cap, rfl, hr, hj⟩ := hs
  obtain ⟨n, hn⟩ : ∃ n, da.length = n := ⟨_, rfl⟩
  have hb1 : Below w.heap.size w (w.alloc (Obj.cells #[Value.int IntKind.i64 1, Value.int IntKind.i64 off, Value.string { data := nm.toArray }, .slice ad n cap] 69)) := (Below.refl _ _).alloc (Nat.le_refl _) _
  have HC := Lib.hid (fun n2 (e : da.length = n2) => obwrite_any (w.alloc (Obj.cells #[Value.int IntKind.i64 1, Value.int IntKind.i64 off, Value.string { data := nm.toArray }, .slice ad n2 cap] 69)) r p k x o
    (h.fr (Fr.of_below ((Below.refl _ _).alloc (Nat.le_refl _) _) r (fun _ => False)) (fun _ _ h => h) (fun h => h)) (hdom.later (by simp)) off ad cap n2 da ⟨hr.later ((Below.refl _ _).alloc (Nat.le_refl _) _), fun y hy => ⟨(hj y hy).2, by have := (hj y hy).1; simp; omega⟩⟩ e (by omega) (by omega) (by omega))
  unfold deedV
  simp only [hn]
  clear hdom h hr hj
  go_enter Try.func61, Try.ntmps61
  go_wp2_with fail
  refine (HC.out n hn).mono ?_
  rintro e w' ⟨rfl, r', hf, hd, ho⟩
  clear HC
  go_wp2_with fail
  go_ret
  refine ⟨some x, r', rfl, ?_, hd, ho⟩
  exact (Fr.of_below hb1 r _).trans (hf.mono (byOf_ofOb p k))

theorem done_trim (w : World) (r : Nat → Role) (p : Bool) (k : K4) (x : Nat) (o : Ob) (h : ObX w r p k x o) (hl : o.bytes.length ≤ 16384) (hdom : Dom w r) (d : Deed) (dv : Value) (h1 : d.kind = 2) :
    Calls Try.prog 61 #[deedV d dv, .pointer (some ⟨x, 0, .none⟩)] w fun e w' => DonePost w r p k (some (o.cut d.at_)) e w' := by
  obtain ⟨kd, at_, nm, da⟩ := d
  simp only at h1 ⊢
  subst h1
  have hb1 : Below w.heap.size w (w.alloc (Obj.cells #[Value.int IntKind.i64 2, Value.int IntKind.i64 at_, Value.string { data := nm.toArray }, dv] 69)) := (Below.refl _ _).alloc (Nat.le_refl _) _
  have HC := Lib.hid (otrim_any (w.alloc (Obj.cells #[Value.int IntKind.i64 2, Value.int IntKind.i64 at_, Value.string { data := nm.toArray }, dv] 69)) r p k x o
    (h.fr (Fr.of_below ((Below.refl _ _).alloc (Nat.le_refl _) _) r (fun _ => False)) (fun _ _ h => h) (fun h => h)) (hdom.later (by simp)) at_ (by omega))
  unfold deedV
  simp only
  clear hdom h
  go_enter Try.func61, Try.ntmps61
  go_wp2_with fail
  refine HC.out.mono ?_
  rintro e w' ⟨rfl, hf, hd, ho⟩
  clear HC
  go_wp2_with fail
  go_ret
  refine ⟨some x, r, rfl, ?_, hd, ho⟩
  exact (Fr.of_below hb1 r _).trans (hf.mono (byOf_ofOb p k))

theorem ba_mk (l : List UInt8) : (⟨l.toArray⟩ : ByteArray).data.toList = l := by simp
theorem done_set (w : World) (r : Nat → Role) (p : Bool) (k : K4) (x : Nat) (o : Ob) (h : ObX w r p k x o) (hdom : Dom w r) (d : Deed) (dv : Value) (hs : Shr w r dv d.data) (h1 : d.kind = 4) (hn : d.name.length ≤ 20) (hd : d.data.length ≤ 4096) (hN : o.named ≤ 1099511627776) :
    Calls Try.prog 61 #[deedV d dv, .pointer (some ⟨x, 0, .none⟩)] w fun e w' => DonePost w r p k (some (o.set d.name d.data)) e w' := by
  obtain ⟨kd, at_, nm, da⟩ := d
  simp only at h1 hn hd hs ⊢
  subst h1
  unfold deedV
  obtain ⟨av, cv, rfl, hrow, hj⟩ := hs
  obtain ⟨w1, hw1⟩ : ∃ w1, w.alloc (Obj.cells #[Value.int IntKind.i64 4, Value.int IntKind.i64 at_, Value.string { data := nm.toArray }, .slice av da.length cv] 69) = w1 := ⟨_, rfl⟩
  have hb1 : Below w.heap.size w w1 := by rw [← hw1]; exact (Below.refl _ _).alloc (Nat.le_refl _) _
  have hrec := RecAt.new w #[Value.int IntKind.i64 4, Value.int IntKind.i64 at_, Value.string { data := nm.toArray }, .slice av da.length cv] 69
  rw [hw1] at hrec
  have hs1 : Shr w1 r (.slice av da.length cv) da := Shr.later ⟨av, cv, rfl, hrow, hj⟩ hb1
  obtain ⟨n, hn2⟩ : ∃ n, da.length = n := ⟨_, rfl⟩
  have HC := Lib.hid (oset_any w1 r p k x o (h.fr (Fr.of_below hb1 r (fun _ => False)) (fun _ _ h => h) (fun h => h)) (hdom.later hb1.size) hN ⟨nm.toArray⟩ (by show nm.toArray.size ≤ _; simp; omega) av n cv da hn2 (by omega) (by rw [← hn2]; exact hs1))
  rw [ba_mk] at HC
  rw [hn2] at hrec hw1 ⊢
  have x0 := hrec.cell (i := 0) rfl
  have x2 := hrec.cell (i := 2) rfl
  have x3 := hrec.cell (i := 3) rfl
  have HB := Lib.hid hb1
  have HD := Lib.hid hdom
  clear h hdom hn hd hN hrow hj hs1 hn2 hrec hb1
  go_enter Try.func61, Try.ntmps61
  go_upto_region 1 with fail
  clear hw1
  go_wp2_with fail
  refine HC.out.mono ?_
  rintro e w2 ⟨rfl, r', hf, hd2, ho⟩
  have HF := Lib.hid (And.intro hf (And.intro hd2 ho))
  clear hf hd2 ho
  go_wp2_with fail
  go_ret
  exact ⟨some x, r', rfl, (Fr.of_below HB.out r _).trans HF.out.1, HF.out.2.1, HF.out.2.2⟩
theorem done_any (w : World) (r : Nat → Role) (p : Bool) (k : K4) (x : Option Nat) (o : Option Ob) (h : OpAt w r p k x o) (hl : ∀ o', o = some o' → o'.bytes.length ≤ 16384) (hdom : Dom w r) (d : Deed) (dv : Value) (hs : Shr w r dv d.data) (hc : canD d o) :
    Calls Try.prog 61 #[deedV d dv, ptrV x] w fun e w' => DonePost w r p k (doneD d o) e w' := by
  rcases hc with h1 | h1 | ⟨h1, h2, h3, h4⟩ | ⟨h1, h2⟩ | ⟨h1, h2, h3, h4, h5⟩
  · have e : doneD d o = some Ob.none := by simp [doneD, h1]
    rw [e]
    exact done_make w r p k (ptrV x) hdom d dv h1
  · have e : doneD d o = .none := by simp [doneD, h1]
    rw [e]
    exact done_drop w r p k (ptrV x) hdom d dv h1
  · cases o with
    | none => cases h2
    | some o =>
      cases x with
      | none => exact h.elim
      | some x =>
        have e : doneD d (some o) = some (o.wr d.at_.toNat d.data) := by simp [doneD, h1]
        rw [e]
        exact done_write w r p k x o h (hl o rfl) hdom d dv hs h1 h3 h4
  · cases o with
    | none => cases h2
    | some o =>
      cases x with
      | none => exact h.elim
      | some x =>
        have e : doneD d (some o) = some (o.cut d.at_) := by simp [doneD, h1]
        rw [e]
        exact done_trim w r p k x o h (hl o rfl) hdom d dv h1
  · cases o with
    | none => cases h2
    | some o =>
      cases x with
      | none => exact h.elim
      | some x =>
        have e : doneD d (some o) = some (o.set d.name d.data) := by simp [doneD, h1]
        rw [e]
        exact done_set w r p k x o h hdom d dv hs h1 h3 h4 (by have := (h5 o rfl).2; omega)
end Go.Proofs.Ytgjdabneodkmpaa
