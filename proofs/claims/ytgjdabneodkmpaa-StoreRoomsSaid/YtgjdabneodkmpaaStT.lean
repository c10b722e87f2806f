/- The store: lists of keys, plain; which of 64 are there. -/
import Derived.Test.YtgjdabneodkmpaaStB
import Derived.Test.YtgjdabneodkmpaaStI
namespace Go.Proofs.Ytgjdabneodkmpaa
open Go.RowKit Go.Proofs Go.Shelf Go.Sort
set_option linter.unusedVariables false
set_option linter.unusedSimpArgs false

/-! ### the 64 keys -/
def keyN (i : Nat) : K4 := ⟨4, 1, ((i / 8 : Nat) : Int), ((i % 8 : Nat) : Int)⟩
theorem keyN_ok {i : Nat} (h : i < 64) : (keyN i).ok := KEY_ok _ _ _ _ (by omega)
theorem keyN_right {i : Nat} (h : i < 64) : rightK (keyN i) = true := by
  unfold rightK keyN; rw [decide_eq_true_iff]; simp only; omega
theorem keyN_inj {i j : Nat} (h : keyN i = keyN j) : i = j := by
  unfold keyN at h
  simp only [K4.mk.injEq] at h
  omega
def setB (f : Nat → Bool) (i : Nat) (v : Bool) : Nat → Bool := fun x => if x = i then v else f x
/-- A store in which just the keys that f names are, each an object without bytes. -/
structure LI (S : St) (f : Nat → Bool) (n : Nat) : Prop where
  good : S.Good n
  off : S.off = false
  yes : ∀ i, i < 64 → f i = true → S.seen (keyN i) = some Ob.none
  no : ∀ k, k.ok → (∀ i, i < 64 → f i = true → k ≠ keyN i) → S.seen k = .none
theorem LI.new : LI (St.new 1000) (fun _ => false) 0 := ⟨St.Good.new 1000, rfl, fun i _ h => by simp at h, fun k _ _ => rfl⟩
theorem LI.why {S : St} {f : Nat → Bool} {n i : Nat} (h : LI S f n) (hi : i < 64) : whyNot S (keyN i) = 0 := by
  unfold whyNot; rw [h.off, keyN_right hi]; rfl
theorem LI.none_at {S : St} {f : Nat → Bool} {n i : Nat} (h : LI S f n) (hi : i < 64) (hf : f i = false) : S.seen (keyN i) = .none :=
  h.no _ (keyN_ok hi) fun j hj hfj e => by have := keyN_inj e; subst this; rw [hf] at hfj; cases hfj
theorem LI.make {S : St} {f : Nat → Bool} {n i : Nat} (h : LI S f n) (hn : n ≤ 1000) (hi : i < 64) : LI (S.did (keyN i) ⟨0, 0, [], []⟩) (setB f i true) (n + 1) where
  good := h.good.did hn (keyN_ok hi) (.inl rfl)
  off := by rw [(St.did_rest S _ _).2.1]; exact h.off
  yes := fun j hj hf => by
    rw [St.did_seen]
    by_cases e : j = i
    · subst e; rw [upd_same]; rfl
    · rw [upd_other _ _ (fun e2 => e (keyN_inj e2))]
      exact h.yes j hj (by simpa [setB, e] using hf)
  no := fun k hk hall => by
    rw [St.did_seen]
    have hne : k ≠ keyN i := hall i hi (by simp [setB])
    rw [upd_other _ _ hne]
    exact h.no k hk fun j hj hf => hall j hj (by unfold setB; split <;> simp_all)
theorem LI.drop {S : St} {f : Nat → Bool} {n i : Nat} (h : LI S f n) (hn : n ≤ 1000) (hi : i < 64) : LI (S.did (keyN i) ⟨3, 0, [], []⟩) (setB f i false) (n + 1) where
  good := h.good.did hn (keyN_ok hi) (.inr (.inl rfl))
  off := by rw [(St.did_rest S _ _).2.1]; exact h.off
  yes := fun j hj hf => by
    rw [St.did_seen]
    have e : j ≠ i := fun e => by subst e; simp [setB] at hf
    rw [upd_other _ _ (fun e2 => e (keyN_inj e2))]
    exact h.yes j hj (by simpa [setB, e] using hf)
  no := fun k hk hall => by
    rw [St.did_seen]
    by_cases e : k = keyN i
    · subst e; rw [upd_same]; rfl
    · rw [upd_other _ _ e]
      exact h.no k hk fun j hj hf e2 => by
        have : j ≠ i := fun e3 => e (by rw [e2, e3])
        exact hall j hj (by simp [setB, this, hf]) e2
/-- Those that are there, rising. -/
def thereL (f : Nat → Bool) : List Nat := (List.range 64).filter f
theorem thereL_mem {f : Nat → Bool} {i : Nat} : i ∈ thereL f ↔ (i < 64 ∧ f i = true) := by unfold thereL; simp
theorem LI.sks {S : St} {f : Nat → Bool} {n : Nat} (h : LI S f n) (k : K4) : k ∈ S.sks ↔ ∃ i, i < 64 ∧ f i = true ∧ k = keyN i := by
  rw [h.good.wf.sks]
  constructor
  · rintro ⟨h1, h2⟩
    refine Classical.byContradiction fun hno => ?_
    rw [h.no k h2 fun i hi hf e => hno ⟨i, hi, hf, e⟩] at h1
    cases h1
  · rintro ⟨i, hi, hf, rfl⟩
    exact ⟨by rw [h.yes i hi hf]; rfl, keyN_ok hi⟩
theorem LI.keys {S : St} {f : Nat → Bool} {n : Nat} (h : LI S f n) : keysOf S 4 1 = (thereL f).map keyN := by
  unfold keysOf
  rw [h.off]
  refine (sortK_eq ?_ ?_).symm
  · refine (List.perm_ext_iff_of_nodup ?_ (h.good.wf.nd.1.filter _)).2 fun k => ?_
    · unfold thereL
      refine List.pairwise_map.2 ((List.nodup_range.filter _).imp fun hne e => hne (keyN_inj e))
    · rw [List.mem_map, List.mem_filter, h.sks]
      constructor
      · rintro ⟨i, hi, rfl⟩
        obtain ⟨h1, h2⟩ := thereL_mem.1 hi
        exact ⟨⟨i, h1, h2, rfl⟩, by simp [isKI, keyN]⟩
      · rintro ⟨⟨i, h1, h2, rfl⟩, _⟩
        exact ⟨i, thereL_mem.2 ⟨h1, h2⟩, rfl⟩
  · refine List.pairwise_map.2 ?_
    unfold thereL
    refine (List.Pairwise.filter _ List.pairwise_lt_range).imp fun {i j} hij => ?_
    simp only [leK, Bool.not_eq_true', ltOf_cmpK_f, ltK, keyN]
    omega
theorem LI.others {S : St} {f : Nat → Bool} {n : Nat} (h : LI S f n) {kind img : Int} (hne : kind ≠ 4 ∨ img ≠ 1) : keysOf S kind img = [] := by
  unfold keysOf
  rw [h.off]
  have : S.sks.filter (isKI kind img) = [] := by
    rw [List.filter_eq_nil_iff]
    intro k hk
    obtain ⟨i, _, _, rfl⟩ := (h.sks k).1 hk
    simp only [isKI, keyN, Bool.and_eq_true, beq_iff_eq]
    omega
  rw [this]; exact sortK_nil
theorem thereL_len (f : Nat → Bool) : (thereL f).length ≤ 64 := by
  unfold thereL; have := List.length_filter_le f (List.range 64); rw [List.length_range] at this; exact this
theorem thereL_take (f : Nat → Bool) (j : Nat) (hj : j < 64) : (((List.range (j + 1)).filter f) : List Nat) = (List.range j).filter f ++ if f j then [j] else [] := by
  rw [List.range_succ, List.filter_append]
  cases h : f j <;> simp [h]

/-! ### 64 bools of the caller's own -/
def bools (f : Nat → Bool) : List Value := (List.range 64).map fun i => .bool (f i)
theorem bools_len (f : Nat → Bool) : (bools f).length = 64 := by simp [bools]
theorem bools_get (f : Nat → Bool) {i : Nat} (h : i < 64) : (bools f)[i]? = some (.bool (f i)) := by
  unfold bools; rw [List.getElem?_map, List.getElem?_range h]; rfl
theorem bools_set (f : Nat → Bool) {i : Nat} (h : i < 64) (v : Bool) : (bools f).set i (.bool v) = bools (setB f i v) := by
  refine List.ext_getElem? fun j => ?_
  rw [List.getElem?_set]
  by_cases e : i = j
  · subst e; rw [if_pos rfl, if_pos (by rw [bools_len]; exact h), bools_get _ h]; simp [setB]
  · rw [if_neg e]
    by_cases hj : j < 64
    · rw [bools_get _ hj, bools_get _ hj]; simp only [setB, if_neg (fun e2 : j = i => e e2.symm)]
    · rw [List.getElem?_eq_none (by rw [bools_len]; omega), List.getElem?_eq_none (by rw [bools_len]; omega)]
theorem info_bool : (Try.prog.info? 4).map (fun i => (i.zero, i.size, i.bytes)) = some (some (.bool false), 1, 1) := by kernel_rfl
def TB (w : World) (r : Nat → Role) (tb : Nat) (f : Nat → Bool) : Prop := WRow w r 4 1 (.slice (some ⟨tb, 0, none⟩) 64 64) 64 (bools f)
theorem TB.cell {w : World} {r : Nat → Role} {tb : Nat} {f : Nat → Bool} (h : TB w r tb f) {i : Nat} (hi : i < 64) : w.cell? ⟨tb, i, none⟩ = some (.bool (f i)) := by
  rw [World.ownsRow.cellAt h.1 i (by omega)]; exact bools_get f hi
theorem TB.frozen {w : World} {r : Nat → Role} {tb : Nat} {f : Nat → Bool} (h : TB w r tb f) (i : Nat) : w.frozen? ⟨tb, i, none⟩ = false := World.ownsRow.frozenAt h.1 i
theorem TB.jk {w w' : World} {r r' : Nat → Role} {tb : Nat} {f : Nat → Bool} (h : TB w r tb f) (hf : Jk w w' r r') : TB w' r' tb f := WRow.jk h hf
theorem TB.set {w0 w : World} {b tb : Nat} {g : Gh} {S : St} {f : Nat → Bool} (hn : NSto w0 w b g S) (h : TB w g.r tb f) {i : Nat} (hi : i < 64) (v : Bool) :
    ∃ r', NSto w0 (w.setCell ⟨tb, i, none⟩ (.bool v)) b (g.withR r') S ∧ TB (w.setCell ⟨tb, i, none⟩ (.bool v)) r' tb (setB f i v) ∧ ∀ (x : Nat) (k : K4), KeyAt w x k → g.r x = .junk → KeyAt (w.setCell ⟨tb, i, none⟩ (.bool v)) x k ∧ r' x = .junk := by
  have h1 := World.ownsRow.stored h.1 i (.bool v)
  obtain ⟨h2, h3⟩ := hn.grown h1.2 (fun x hx => h.2 x hx)
  refine ⟨_, h2, ⟨by rw [← bools_set f hi]; exact h1.1, fun x hx => ?_⟩, fun x k hk hj => ?_⟩
  · cases hx
    have := h.2 tb rfl
    have hlt := (World.ownsRow.lt h.1 tb rfl).2
    rw [ownNew_old hlt]; exact this
  · exact ⟨hk.fr h3 hj (by simp), by rw [ownNew_old hk.lt]; exact hj⟩
theorem TB.made {w0 w w' : World} {b : Nat} {g : Gh} {S : St} (hn : NSto w0 w b g S) (hg : w.grownBy w' none) (ho : w'.ownsRow 0 4 1 (.slice (some ⟨w.heap.size, 0, none⟩) 64 64) 64 (madeCells (Value.bool false).cells (64 * 1)).toList) :
    ∃ r', NSto w0 w' b (g.withR r') S ∧ TB w' r' w.heap.size (fun _ => false) := by
  obtain ⟨h2, h3⟩ := hn.grown hg (fun x hx => by cases hx)
  refine ⟨_, h2, ⟨?_, fun x hx => ?_⟩⟩
  · have e : (madeCells (Value.bool false).cells (64 * 1)).toList = bools fun _ => false := by
      rw [show (Value.bool false).cells = #[.bool false] from rfl, toList_madeCells_one]
      unfold bools
      rw [List.map_const', List.length_range]
    rw [← e]; exact ho
  · cases hx
    exact ownNew_new (Nat.le_refl _) (World.ownsRow.lt ho _ rfl).2
/-! ### rows of values that came in -/
def VRow (w : World) (a : Option Addr) (cap : Nat) (vs : List Value) : Prop := vs.length ≤ cap ∧ (a = none → cap = 0) ∧ ∀ x, a = some x → ∀ (i : Nat) v, vs[i]? = some v → w.cell? (x.add i) = some v
theorem VRow.at {w : World} {a : Option Addr} {cap : Nat} {vs : List Value} (h : VRow w a cap vs) (hl : 0 < vs.length) : ∃ b off, a = some ⟨b, off, .none⟩ ∧ ∀ (i : Nat) v, vs[i]? = some v → w.cell? ⟨b, off + i, .none⟩ = some v := by
  cases a with
  | none => have := h.2.1 rfl; have := h.1; omega
  | some x =>
    have h0 := h.2.2 x rfl 0 vs[0] (by simp [hl])
    obtain ⟨b, off, spot⟩ := x
    have hspot : spot = .none := by simpa [Addr.add] using World.cell?_spot h0
    subst hspot
    refine ⟨b, off, rfl, fun i v hv => ?_⟩
    have h1 := h.2.2 _ rfl i v hv
    by_cases hi : i = 0
    · subst hi; simpa [Addr.add] using h1
    · simpa [Addr.add, hi] using h1

/-! ### Make, Drop of one of the 64 -/
theorem LI.mono {S : St} {f : Nat → Bool} {n n2 : Nat} (h : LI S f n) (hn : n ≤ n2) : LI S f n2 := ⟨h.good.mono hn, h.off, h.yes, h.no⟩
theorem setB_same {f : Nat → Bool} {i : Nat} {v : Bool} (h : f i = v) : setB f i v = f := by
  funext x; unfold setB; split
  · rename_i e; rw [e, h]
  · rfl
/-- What a call leaves. -/
def Leaves (w0 : World) (b tb : Nat) (f f' : Nat → Bool) (n : Nat) (w : World) (r : Nat → Role) (w' : World) : Prop :=
  ∃ g' S', NSto w0 w' b g' S' ∧ LI S' f' n ∧ TB w' g'.r tb f ∧ ∀ (x : Nat) (k : K4), KeyAt w x k → r x = .junk → KeyAt w' x k ∧ g'.r x = .junk
theorem make_li {w0 w : World} {b tb : Nat} {g : Gh} {S : St} {f : Nat → Bool} {n q : Nat} (h : NSto w0 w b g S) (hl : LI S f n) (ht : TB w g.r tb f) (hn : n ≤ 900) (hq : q < 64) :
    Calls Try.prog 10 #[.pointer (some ⟨b, 0, .none⟩), kv (keyN q)] w fun e w' => e = .returned (.int .i64 (if f q then 5 else 0)) ∧ Leaves w0 b tb f (setB f q true) (n + 1) w g.r w' := by
  cases hf : f q with
  | true =>
    refine (make_there w b g S h.sto (keyN q) (keyN_ok hq) _ (hl.yes q hq hf) (hl.why hq)).mono ?_
    rintro e w' ⟨rfl, hb⟩
    refine ⟨rfl, g, S, h.later hb, by rw [setB_same hf]; exact hl.mono (by omega), ht.jk (Jk.of_below hb _), fun x k hk hj => ⟨hk.later hb, hj⟩⟩
  | false =>
    refine (make_any w b g S h.sto (keyN q) (keyN_ok hq) (hl.none_at hq hf) (hl.why hq) (by have := hl.good.sks; omega) hl.good.wf n (hl.good.sm (by omega)) (by omega)).mono ?_
    rintro e w' ⟨rfl, g', hs, hfr⟩
    have hj : Jk w w' g.r g'.r := Jk.of_fr hfr (by simp [ours])
    refine ⟨rfl, g', _, h.fr hs hfr, hl.make (by omega) hq, ht.jk hj, fun x k hk hx => ⟨hk.jk hj hx, ?_⟩⟩
    rw [hfr.role _ hk.lt]; exact hx
theorem drop_li {w0 w : World} {b tb : Nat} {g : Gh} {S : St} {f : Nat → Bool} {n q : Nat} (h : NSto w0 w b g S) (hl : LI S f n) (ht : TB w g.r tb f) (hn : n ≤ 900) (hq : q < 64) (hf : f q = true) :
    Calls Try.prog 28 #[.pointer (some ⟨b, 0, .none⟩), kv (keyN q)] w fun e w' => e = .returned (.int .i64 0) ∧ Leaves w0 b tb f (setB f q false) (n + 1) w g.r w' := by
  refine (drop_any w b g S h.sto (keyN q) (keyN_ok hq) _ (hl.yes q hq hf) (hl.why hq) hl.good.wf n (hl.good.sm (by omega)) (by omega)).mono ?_
  rintro e w' ⟨rfl, g', hs, hfr⟩
  have hj : Jk w w' g.r g'.r := Jk.of_fr hfr (by simp [ours])
  refine ⟨rfl, g', _, h.fr hs hfr, hl.drop (by omega) hq, ht.jk hj, fun x k hk hx => ⟨hk.jk hj hx, ?_⟩⟩
  rw [hfr.role _ hk.lt]; exact hx
end Go.Proofs.Ytgjdabneodkmpaa
