/- Attributes: what is looked up, counted, set. -/
import Derived.Test.YtgjdabneodkmpaaStZ
import Derived.Test.YtgjdabneodkmpaaRv
import Derived.Maps.OwnSet
import Derived.Maps.Keyed
import Derived.BigQuiet
namespace Go.Proofs.Ytgjdabneodkmpaa
open Go.RowKit
set_option linter.unusedVariables false
set_option linter.unusedSimpArgs false

theorem skeyed : Go.Maps.Keyed Try.prog 9 := Go.Maps.string_keyed Try.underlying9
theorem ba_len (s : ByteArray) : s.data.toList.length = s.size := by rw [Array.length_toList]; rfl
theorem key_str (s : ByteArray) (hs : s.size ≤ maxLen) : keyOf Try.prog 9 (.string s) = some (.string s.data.toList) := by
  rw [keyOf_string Try.underlying9]
  simp [mapKey, Try.underlying9, ByteArray.toList_eq, hs]
theorem zero_sl (w : World) : (zeroValue 31).run Try.prog w = .ok (.slice none 0 0) w := by kernel_rfl
theorem slE_eq {v v0 : Value} {ps : List MemPlace} (h : slE v = some (.held v0, ps)) : v = v0 := by
  unfold slE at h
  split at h
  · simp at h; exact h.1
  · cases h
theorem ownsMap_later {w W : World} {b n : Nat} {D : DataW Value} (h : w.ownsMap Try.prog 9 slE b n D) (hb : Below w.heap.size w W) : W.ownsMap Try.prog 9 slE b n D := by
  have hlt := h.lt
  obtain ⟨es, clock, h2, rest⟩ := h
  exact ⟨es, clock, by rw [hb.block b hlt]; exact h2, rest⟩
/-- 'o.attrs[name]'. -/
theorem AttrAt.look {w : World} {r : Nat → Role} {p : Bool} {k : K4} {av : Value} {f : List UInt8 → List UInt8} {z : Int} (h : AttrAt w r p k av f z) (s : ByteArray) (hs : s.size ≤ maxLen) :
    ∃ v, Shr w r v (f s.data.toList) ∧ ∀ W, Below w.heap.size w W → (Instr.lookup 73 av (.string s) false).run Try.prog W = .ok v W := by
  rcases h with ⟨rfl, hf, _⟩ | ⟨b, n, D, rfl, hr, ho, hv, hq⟩
  · refine ⟨.slice none 0 0, ⟨none, 0, by rw [hf]; rfl, by rw [hf]; exact Row.none w, fun x hx => by cases hx⟩, fun W _ => ?_⟩
    exact Go.Maps.look_nil (w := W) false skeyed Try.underlying73 (zero_sl W) (key_str s hs)
  · obtain ⟨v, h1, h2⟩ := hv s.data.toList (by rw [ba_len]; exact hs)
    refine ⟨v, h2, fun W hb => ?_⟩
    obtain ⟨v2, ps, hrun, hv2⟩ := (ownsMap_later ho hb).lookup skeyed Try.underlying73 (zero_sl W) (show slE (.slice none 0 0) = some (.held (.slice none 0 0), []) from rfl) (key_str s hs)
    rw [h1] at hv2
    rw [slE_eq hv2] at hrun
    exact hrun

/-! ### what an attribute takes up -/
def usedA (s v : List UInt8) : Int := if v = [] then 0 else (s.length : Int) + (v.length : Int)
theorem usedA_nil (s : List UInt8) : usedA s [] = 0 := by unfold usedA; rw [if_pos rfl]
theorem usedA_pos {s v : List UInt8} (h : v ≠ []) : usedA s v = (s.length : Int) + (v.length : Int) := by unfold usedA; rw [if_neg h]
theorem attrUsed_any (s : ByteArray) (a : Option Addr) (n c : Nat) (l : List UInt8) (w : World) (hl : l.length = n) (hn : n ≤ 1099511627776) (hs : s.size ≤ 100000) :
    Calls Try.prog 90 #[.string s, .slice a n c] w fun e w' => e = .returned (.int .i64 (usedA s.data.toList l)) ∧ w' = w := by
  by_cases h0 : n = 0
  · subst h0
    obtain rfl : l = [] := List.length_eq_zero_iff.1 hl
    have HX := Lib.hid (usedA_nil s.data.toList)
    clear hl
    go_enter Try.func90, Try.ntmps90
    go_wp2_with fail
    go_ret
    exact ⟨by rw [HX.out]; rfl, rfl⟩
  · have hne : l ≠ [] := fun e => by rw [e] at hl; simp at hl; omega
    have HX : Hid (usedA s.data.toList l = (s.size : Int) + (n : Int)) := Lib.hid (by rw [usedA_pos hne, hl, ba_len])
    have hq : ((n : Int) == 0) = false := by simp; omega
    clear hl hne
    go_enter Try.func90, Try.ntmps90
    go_wp2_with fail
    go_ret
    exact ⟨by rw [HX.out]; rfl, rfl⟩
/-- By how much an object grows when its attribute becomes l. -/
def growA (f : List UInt8 → List UInt8) (s l : List UInt8) : Int := usedA s l - usedA s (f s)
set_option maxRecDepth 20000 in
set_option maxHeartbeats 1000000 in
theorem attrGrowth_any (w : World) (r : Nat → Role) (p : Bool) (k : K4) (x : Nat) (o : Ob) (h : ObX w r p k x o) (s : ByteArray) (hs : s.size ≤ 100000) (a : Option Addr) (n c : Nat) (l : List UInt8) (hl : l.length = n) (hn : n ≤ 100000) (hf : (o.attrs s.data.toList).length ≤ 1099511627776) :
    Calls Try.prog 76 #[.pointer (some ⟨x, 0, .none⟩), .string s, .slice a n c] w fun e w' => e = .returned (.int .i64 (growA o.attrs s.data.toList l)) ∧ ∃ q, w' = w.drewN q := by
  obtain ⟨bv, av, h⟩ := h
  obtain ⟨v, hv, hlook⟩ := h.attrs.look s (by unfold maxLen; omega)
  obtain ⟨va, vc, rfl, vr, _⟩ := hv
  obtain ⟨vn, hvn⟩ : ∃ m, (o.attrs s.data.toList).length = m := ⟨_, rfl⟩
  rw [hvn] at hlook hf
  have c1 : w.cell? ⟨x, 1, .none⟩ = some av := cell_of_block h.heap rfl
  have hlk := fun nq => hlook (w.drewN nq) (below_drewN w nq)
  obtain ⟨mo, rfl⟩ : ∃ m, av = .map m := by
    rcases h.attrs with ⟨h1, _⟩ | ⟨b, _, _, h1, _⟩
    · exact ⟨_, h1⟩
    · exact ⟨_, h1⟩
  have HU1 := Lib.hid (fun W => attrUsed_any s a n c l W hl (by omega) hs)
  have HU2 := Lib.hid (fun W => attrUsed_any s va vn vc (o.attrs s.data.toList) W hvn hf hs)
  obtain ⟨U1, hU1⟩ : ∃ U, usedA s.data.toList l = U := ⟨_, rfl⟩
  obtain ⟨U2, hU2⟩ : ∃ U, usedA s.data.toList (o.attrs s.data.toList) = U := ⟨_, rfl⟩
  have hb1 : 0 ≤ U1 ∧ U1 ≤ 1099512000000 := by rw [← hU1]; unfold usedA; rw [ba_len, hl]; split <;> omega
  have hb2 : 0 ≤ U2 ∧ U2 ≤ 1099512000000 := by rw [← hU2]; unfold usedA; rw [ba_len, hvn]; split <;> omega
  have HG : Hid (growA o.attrs s.data.toList l = U1 - U2) := Lib.hid (by unfold growA; rw [hU1, hU2])
  rw [hU1] at HU1
  rw [hU2] at HU2
  clear hU1 hU2 h hlook vr hl hvn
  have hw : IntKind.i64.wrap (U1 - U2) = U1 - U2 := by rw [IntKind.wrap_i64]; omega
  go_enter Try.func76, Try.ntmps76
  go_wp2_with fail
  go_quiet ((first | (go_at_call 90; with_reducible exact Calls.quiet_of_same (HU1.out _)) | (go_at_call 90; with_reducible exact Calls.quiet_of_same (HU2.out _))))
  go_wp2_with fail
  go_ret
  exact ⟨by rw [HG.out]; rfl, _, rfl⟩

/-! ### one attribute more, another, one less -/
def setF (f : List UInt8 → List UInt8) (s l : List UInt8) : List UInt8 → List UInt8 := fun t => if t = s then l else f t
def Ob.set (o : Ob) (s l : List UInt8) : Ob := { o with attrs := setF o.attrs s l, named := o.named + growA o.attrs s l }
theorem setF_same (f : List UInt8 → List UInt8) (s l : List UInt8) : setF f s l s = l := by unfold setF; rw [if_pos rfl]
theorem setF_other (f : List UInt8 → List UInt8) {s t : List UInt8} (l : List UInt8) (h : t ≠ s) : setF f s l t = f t := by unfold setF; rw [if_neg h]
theorem sumw_filter (g : List UInt8 → Int) (s : List UInt8) : ∀ ns : List (List UInt8), ns.Nodup → (ns.map g).sum = ((ns.filter fun x => decide (x ≠ s)).map g).sum + (if s ∈ ns then g s else 0) ∧ ns.length = (ns.filter fun x => decide (x ≠ s)).length + (if s ∈ ns then 1 else 0)
  | [], _ => by simp
  | t :: ns, h => by
    obtain ⟨h1, h2⟩ := List.nodup_cons.1 h
    obtain ⟨e1, e2⟩ := sumw_filter g s ns h2
    by_cases e : t = s
    · subst e
      rw [List.filter_cons_of_neg (by simp), List.map_cons, List.sum_cons, List.length_cons, e1, e2, if_neg h1, if_neg h1, if_pos List.mem_cons_self, if_pos List.mem_cons_self]
      omega
    · rw [List.filter_cons_of_pos (by simpa using e), List.map_cons, List.sum_cons, List.length_cons, List.map_cons, List.sum_cons, List.length_cons, e1, e2]
      have hm : (s ∈ t :: ns) ↔ s ∈ ns := by simp [Ne.symm e]
      by_cases hs : s ∈ ns
      · rw [if_pos hs, if_pos (hm.2 hs), if_pos hs, if_pos (hm.2 hs)]; omega
      · rw [if_neg hs, if_neg (fun x => hs (hm.1 x)), if_neg hs, if_neg (fun x => hs (hm.1 x))]; omega
theorem sumw_congr {g h : List UInt8 → Int} : ∀ ns : List (List UInt8), (∀ s ∈ ns, g s = h s) → (ns.map g).sum = (ns.map h).sum
  | [], _ => rfl
  | t :: ns, e => by
    rw [List.map_cons, List.map_cons, List.sum_cons, List.sum_cons, e t List.mem_cons_self, sumw_congr ns fun s hs => e s (List.mem_cons_of_mem _ hs)]
theorem wOf_pos (f : List UInt8 → List UInt8) (s : List UInt8) : 0 ≤ wOf f s := by unfold wOf; omega
theorem sumw_nn (f : List UInt8 → List UInt8) : ∀ ns : List (List UInt8), 0 ≤ (ns.map (wOf f)).sum
  | [] => by simp
  | t :: ns => by rw [List.map_cons, List.sum_cons]; have := wOf_pos f t; have := sumw_nn f ns; omega
theorem AttrSum.nn {f : List UInt8 → List UInt8} {z : Int} {n : Nat} (h : AttrSum f z n) : 0 ≤ z := by
  obtain ⟨ns, _, _, _, rfl⟩ := h
  exact sumw_nn f ns
theorem AttrSum.le {f : List UInt8 → List UInt8} {z : Int} {n : Nat} (h : AttrSum f z n) (s : List UInt8) : ((f s).length : Int) ≤ z ∧ usedA s (f s) ≤ z := by
  obtain ⟨ns, h1, h2, _, rfl⟩ := h
  by_cases e : f s = []
  · have := sumw_nn f ns
    rw [e, usedA_nil]
    simp; exact this
  · obtain ⟨e1, _⟩ := sumw_filter (wOf f) s ns h1
    rw [if_pos ((h2 s).1 e)] at e1
    have := sumw_nn f (ns.filter fun x => decide (x ≠ s))
    rw [usedA_pos e]
    unfold wOf at *
    omega
theorem AttrSum.count {f : List UInt8 → List UInt8} {z : Int} {n : Nat} (h : AttrSum f z n) : (n : Int) ≤ z := by
  obtain ⟨ns, h1, h2, rfl, rfl⟩ := h
  have : ∀ l : List (List UInt8), (∀ s ∈ l, f s ≠ []) → (l.length : Int) ≤ (l.map (wOf f)).sum := by
    intro l
    induction l with
    | nil => simp
    | cons t l ih =>
      intro hl
      rw [List.map_cons, List.sum_cons, List.length_cons]
      have h3 := ih fun s hs => hl s (List.mem_cons_of_mem _ hs)
      have h4 : 1 ≤ (f t).length := by
        have := hl t List.mem_cons_self
        cases hf : f t with
        | nil => exact absurd hf this
        | cons a b => simp
      unfold wOf at *
      omega
  exact this ns fun s hs => (h2 s).2 hs
theorem AttrSum.set {f : List UInt8 → List UInt8} {z : Int} {n : Nat} (h : AttrSum f z n) (s l : List UInt8) : AttrSum (setF f s l) (z + growA f s l) ((if f s = [] then n else n - 1) + if l = [] then 0 else 1) := by
  obtain ⟨ns, h1, h2, rfl, rfl⟩ := h
  obtain ⟨e1, e2⟩ := sumw_filter (wOf f) s ns h1
  obtain ⟨ns0, h0⟩ : ∃ m, (ns.filter fun x => decide (x ≠ s)) = m := ⟨_, rfl⟩
  have hnd : ns0.Nodup := by rw [← h0]; exact h1.filter _
  have hmem : ∀ t, t ∈ ns0 ↔ t ∈ ns ∧ t ≠ s := fun t => by rw [← h0, List.mem_filter]; simp
  have hs0 : s ∉ ns0 := fun hx => ((hmem s).1 hx).2 rfl
  rw [h0] at e1 e2
  have e3 : (ns0.map (wOf f)).sum = (ns0.map (wOf (setF f s l))).sum := sumw_congr ns0 fun t ht => by
    unfold wOf; rw [setF_other f l ((hmem t).1 ht).2]
  have e4 : (if s ∈ ns then wOf f s else 0) = usedA s (f s) := by
    by_cases e : f s = []
    · rw [if_neg (fun x => (h2 s).2 x e), e, usedA_nil]
    · rw [if_pos ((h2 s).1 e), usedA_pos e]; rfl
  have e5 : ns0.length = if f s = [] then ns.length else ns.length - 1 := by
    by_cases e : f s = []
    · rw [if_pos e]; rw [if_neg (fun x => (h2 s).2 x e)] at e2; omega
    · rw [if_neg e]; rw [if_pos ((h2 s).1 e)] at e2; omega
  rw [e4, e3] at e1
  by_cases hl : l = []
  · refine ⟨ns0, hnd, fun t => ?_, by rw [e5, if_pos hl]; rfl, ?_⟩
    · by_cases e : t = s
      · subst e; rw [setF_same]; exact ⟨fun x => absurd hl x, fun x => absurd x hs0⟩
      · rw [setF_other f l e, hmem t, h2 t]; exact ⟨fun x => ⟨x, e⟩, fun x => x.1⟩
    · unfold growA
      rw [e1, hl, usedA_nil]; omega
  · refine ⟨s :: ns0, List.nodup_cons.2 ⟨hs0, hnd⟩, fun t => ?_, by rw [List.length_cons, e5, if_neg hl], ?_⟩
    · by_cases e : t = s
      · subst e; rw [setF_same]; exact ⟨fun _ => List.mem_cons_self, fun _ => hl⟩
      · rw [setF_other f l e, List.mem_cons, hmem t, h2 t]; exact ⟨fun x => .inr ⟨x, e⟩, fun x => (x.resolve_left e).1⟩
    · rw [List.map_cons, List.sum_cons]
      have e6 : wOf (setF f s l) s = usedA s l := by rw [usedA_pos hl]; unfold wOf; rw [setF_same]
      unfold growA
      rw [e6, e1]; omega
theorem AttrSum.none {f : List UInt8 → List UInt8} (h : ∀ s, f s = []) : AttrSum f 0 0 := ⟨[], List.nodup_nil, fun s => by simp [h s], rfl, rfl⟩
theorem AttrAt.sum {w : World} {r : Nat → Role} {p : Bool} {k : K4} {av : Value} {f : List UInt8 → List UInt8} {z : Int} (h : AttrAt w r p k av f z) : ∃ n, AttrSum f z n := by
  rcases h with ⟨_, hf, rfl⟩ | ⟨_, _, D, _, _, _, _, _, hq⟩
  · exact ⟨0, .none hf⟩
  · exact ⟨_, hq⟩
theorem ownsMap_exact {w : World} {b n : Nat} {D : DataW Value} (h : w.ownsMap Try.prog 9 slE b n D) : w.ownsMap Try.prog 9 slE b (Go.Maps.size D) D := by
  obtain ⟨es, clock, h2, F, hs, hDe⟩ := h
  refine ⟨es, clock, h2, F, ?_, hDe⟩
  have : Go.Maps.size D = es.size := by rw [hDe]; simp [Go.Maps.size, length_sorted]
  omega
theorem str_ne {s t : List UInt8} (h : t ≠ s) : (Lit.string t) ≠ Lit.string s := fun e => h (by injection e)
/-- 'o.attrs[name] = v'. -/
theorem AttrAt.put {w : World} {r : Nat → Role} {p : Bool} {k : K4} {b : Nat} {f : List UInt8 → List UInt8} {z : Int} (h : AttrAt w r p k (.map (some b)) f z) (hz : z ≤ 1099511627776) (s : ByteArray) (hs : s.size ≤ maxLen) {a : Option Addr} {n c : Nat} {l : List UInt8}
    (hv : Shr w r (.slice a n c) l) (hl : l ≠ []) :
    ∃ w', (Instr.mapUpdate 73 (.map (some b)) (.string s) (.slice a n c)).run Try.prog w = .ok () w' ∧ AttrAt w' r p k (.map (some b)) (setF f s.data.toList l) (z + growA f s.data.toList l) ∧ w.grownBy w' (some b) ∧ r b = .at_ p k := by
  rcases h with ⟨h1, _⟩ | ⟨b2, n2, D, hb2, hr, ho, hD, hh, hq⟩
  · cases h1
  · cases hb2
    have ho1 := ownsMap_exact ho
    have hn : Go.Maps.size D < maxLen := by have := hq.count; unfold maxLen; omega
    obtain ⟨w', hrun, ho', hg⟩ := ho1.update skeyed Try.underlying73 hn (key_str s hs) (show slE (.slice a n c) = some (.held (.slice a n c), []) from rfl)
    have hf : Fr w w' r r (fun t => t = .at_ p k) := Fr.of_grown hg (fun b' e => by cases e; exact hr)
    have hm := ho1.isMap
    have ht := ho1.tidy skeyed
    have hsz : Go.Maps.size (D.put (.string s.data.toList) (.held (.slice a n c))) = (if f s.data.toList = [] then Go.Maps.size D else Go.Maps.size D - 1) + if l = [] then 0 else 1 := by
      rw [Go.Maps.size_put ht, hh, if_neg hl]
      by_cases e : f s.data.toList = []
      · rw [e]; simp
      · have e2 : (f s.data.toList).isEmpty = false := by simpa using e
        have e3 : Go.Maps.size D ≠ 0 := by
          intro e4
          obtain ⟨ns, h1, h2, h3, _⟩ := hq
          rw [e4] at h3
          have := (h2 _).1 e
          rw [List.length_eq_zero_iff.1 h3] at this
          cases this
        rw [e2, if_neg e]; simp; omega
    refine ⟨w', hrun, .inr ⟨b, _, D.put (.string s.data.toList) (.held (.slice a n c)), rfl, hr, ho', fun t htl => ?_, fun t => ?_, ?_⟩, hg, hr⟩
    · by_cases e : t = s.data.toList
      · subst e
        rw [setF_same]
        exact ⟨_, Go.Maps.atKey_put_same hm (skeyed.key (key_str s hs)) _ _, hv.fr hf (by simp)⟩
      · rw [setF_other f l e]
        obtain ⟨v, h1, h2⟩ := hD t htl
        exact ⟨v, by rw [← h1]; exact Go.Maps.atKey_put_other (str_ne e) _ _, h2.fr hf (by simp)⟩
    · by_cases e : t = s.data.toList
      · subst e
        rw [setF_same, Go.Maps.has_put_same hm (skeyed.key (key_str s hs))]
        cases l with
        | nil => exact absurd rfl hl
        | cons => rfl
      · rw [setF_other f l e, ← hh t]; exact Go.Maps.has_put_other (str_ne e) _
    · rw [hsz]; exact hq.set _ _
/-- 'delete(o.attrs, name)'. -/
theorem AttrAt.del {w : World} {r : Nat → Role} {p : Bool} {k : K4} {av : Value} {f : List UInt8 → List UInt8} {z : Int} (h : AttrAt w r p k av f z) (s : ByteArray) (hs : s.size ≤ maxLen) (ty : TypeId) :
    ∃ w', (Builtin.delete_ #[73, 9] ty #[av, .string s]).run Try.prog w = .ok (.tuple #[]) w' ∧ AttrAt w' r p k av (setF f s.data.toList []) (z + growA f s.data.toList []) ∧ w.grownBy w' (mapBlock av) ∧ ∀ b, mapBlock av = some b → r b = .at_ p k := by
  rcases h with ⟨rfl, hf, rfl⟩ | ⟨b, n2, D, rfl, hr, ho, hD, hh, hq⟩
  · refine ⟨w, Go.Maps.drop_nil skeyed Try.underlying73 (key_str s hs) ty, .inl ⟨rfl, fun t => ?_, ?_⟩, ⟨rfl, rfl, rfl, Nat.le_refl _, fun _ _ _ => rfl⟩, fun b e => by cases e⟩
    · by_cases e : t = s.data.toList
      · subst e; exact setF_same _ _ _
      · rw [setF_other f _ e]; exact hf t
    · unfold growA; rw [hf, usedA_nil]; rfl
  · obtain ⟨w', hrun, ho', hg⟩ := (ownsMap_exact ho).drop skeyed Try.underlying73 (key_str s hs) ty
    have hg2 := hg.grown
    have hf : Fr w w' r r (fun t => t = .at_ p k) := Fr.of_grown hg2 (fun b' e => by cases e; exact hr)
    have ht := (ownsMap_exact ho).tidy skeyed
    have hsz : Go.Maps.size (D.del (.string s.data.toList)) = (if f s.data.toList = [] then Go.Maps.size D else Go.Maps.size D - 1) + if ([] : List UInt8) = [] then 0 else 1 := by
      have := Go.Maps.size_del (k := .string s.data.toList) ht
      rw [hh] at this
      by_cases e : f s.data.toList = []
      · rw [e] at this; rw [if_pos e]; simp at this ⊢; omega
      · have e2 : (f s.data.toList).isEmpty = false := by simpa using e
        rw [e2] at this; rw [if_neg e]; simp at this ⊢; omega
    refine ⟨w', hrun, .inr ⟨b, _, D.del (.string s.data.toList), rfl, hr, ho', fun t htl => ?_, fun t => ?_, ?_⟩, hg2, fun b' e => by cases e; exact hr⟩
    · by_cases e : t = s.data.toList
      · subst e
        rw [setF_same]
        exact ⟨_, Go.Maps.atKey_del_same _, ⟨none, 0, rfl, Row.none _, fun x hx => by cases hx⟩⟩
      · rw [setF_other f _ e]
        obtain ⟨v, h1, h2⟩ := hD t htl
        exact ⟨v, by rw [← h1]; exact Go.Maps.atKey_del_other (str_ne e) _, h2.fr hf (by simp)⟩
    · by_cases e : t = s.data.toList
      · subst e; rw [setF_same, Go.Maps.has_del_same]; rfl
      · rw [setF_other f _ e, ← hh t]; exact Go.Maps.has_del_other (str_ne e)
    · rw [hsz]; exact hq.set _ _
end Go.Proofs.Ytgjdabneodkmpaa
