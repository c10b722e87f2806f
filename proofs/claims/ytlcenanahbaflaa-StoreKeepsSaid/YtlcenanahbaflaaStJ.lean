/- A store of one object that is only appended to, and its Fall: the plain model. -/
import Derived.Test.YtlcenanahbaflaaStI
import Derived.Test.YtlcenanahbaflaaStH
namespace Go.Proofs.Ytlcenanahbaflaa
open Go.RowKit
set_option linter.unusedVariables false

theorem fall_any (w : World) (b : Nat) (g : Gh) (S : St) (h : Sto w b g S) (hoff : S.off = false) (n : Nat) (hG : S.Good n) (hn : n ≤ 1000)
    (ka : Option Addr) (kn kc : Nat) (keep : List Int) (hkp : IRow w g.r ka kc keep) (hkl : keep.length = kn) (hkl2 : kn ≤ 1000000) (t : Int) :
    Calls Try.prog 13 #[.pointer (some ⟨b, 0, .none⟩), .slice ka kn kc, .int .i64 t] w fun e w' =>
      e = .returned (.int .i64 (S.lostN (S.fallL keep))) ∧ ∃ g', Sto w' b g' (S.fallen keep t) ∧ Jk w w' g.r g'.r := by
  by_cases hw : S.wks = []
  · exact fall_none w b g S h hoff hG.wf n (hG.sm hn) hn hw ka kn kc keep t
  · exact fall_some w b g S h hoff hG.wf n (hG.sm hn) hn (hG.leg hn) hw ka kn kc keep hkp hkl hkl2 t

/-- An object of those bytes, without attributes. -/
def obL (l : List UInt8) : Ob := ⟨l, fun _ => [], 0⟩
theorem writeL_end (b p : List UInt8) : writeL b b.length p = b ++ p := by
  by_cases h : p = []
  · subst h; simp [writeL]
  · rw [writeL_pos _ _ _ (List.length_pos_iff.2 h)]
    simp [padL]
theorem obL_wr (b p : List UInt8) : (obL b).wr b.length p = obL (b ++ p) := by unfold Ob.wr obL; simp only [writeL_end]
def catL (ps : List (List UInt8)) (j : Nat) : List UInt8 := (ps.take j).flatten
theorem catL_succ (ps : List (List UInt8)) (j : Nat) : catL ps (j + 1) = catL ps j ++ ps.getD j [] := by
  unfold catL
  rw [List.take_add_one, List.flatten_append, List.getD_eq_getElem?_getD]
  cases ps[j]? <;> simp
theorem catL_len (ps : List (List UInt8)) {M : Nat} : ∀ j, (∀ i, i < j → (ps.getD i []).length ≤ M) → (catL ps j).length ≤ j * M
  | 0, _ => by simp [catL]
  | j + 1, h => by
    have ih := catL_len ps j fun i hi => h i (by omega)
    have := h j (by omega)
    rw [catL_succ, List.length_append, Nat.add_mul]; omega
def kpK : K4 := ⟨1, 0, 3, 0⟩
theorem kp_ok : kpK.ok := KEY_ok 1 0 3 0 (by omega)
def kpD (ps : List (List UInt8)) (i : Nat) : Deed := ⟨1, ((catL ps i).length : Nat), [], ps.getD i []⟩
def kpS (ps : List (List UInt8)) : Nat → St
  | 0 => ((St.new 65536).did kpK ⟨0, 0, [], []⟩).dried
  | j + 1 => (kpS ps j).did kpK (kpD ps j)
theorem kp_one (ps : List (List UInt8)) : ∀ j, j ≤ 20 → (∀ i, i < j → (ps.getD i []).length ≤ 60) → One (kpS ps j) kpK 65536 (obL (catL ps j)) (j + 2)
  | 0, _, _ => (One.made 65536 kpK kp_ok rfl).dried
  | j + 1, hj, h => by
    have ih := kp_one ps j (by omega) fun i hi => h i (by omega)
    have hl := catL_len ps j fun i hi => h i (by omega)
    have hp := h j (by omega)
    have := ih.wr (by omega) (catL ps j).length (ps.getD j []) (by omega) (.inl (by
      rw [obL_wr]; simp only [obL, List.length_append]; omega))
    rw [obL_wr, ← catL_succ] at this
    exact this.2
theorem kp_wr (ps : List (List UInt8)) (j : Nat) (hj : j < 20) (h : ∀ i, i ≤ j → (ps.getD i []).length ≤ 60) : (kpS ps j).wr kpK (obL (catL ps j)) ((catL ps j).length : Nat) (ps.getD j []) = (0, kpS ps (j + 1)) := by
  have ih := kp_one ps j (by omega) fun i hi => h i (by omega)
  have hl := catL_len ps j fun i hi => h i (by omega)
  have hp := h j (by omega)
  have := ih.wr (by omega) (catL ps j).length (ps.getD j []) (by omega) (.inl (by
    rw [obL_wr]; simp only [obL, List.length_append]; omega))
  exact this.1
theorem kp_wet (ps : List (List UInt8)) : ∀ j, j ≤ 20 → (∀ i, i < j → (ps.getD i []).length ≤ 60) → ((kpS ps j).wet kpK = if j = 0 then .none else some ⟨some (obL []), (List.range j).map (kpD ps)⟩) ∧ (kpS ps j).wks = if j = 0 then [] else [kpK]
  | 0, _, _ => ⟨rfl, rfl⟩
  | j + 1, hj, h => by
    have ih := kp_wet ps j (by omega) fun i hi => h i (by omega)
    have ho := kp_one ps j (by omega) fun i hi => h i (by omega)
    show ((kpS ps j).did kpK (kpD ps j)).wet kpK = _ ∧ ((kpS ps j).did kpK (kpD ps j)).wks = _
    rw [St.did_wet, upd_same, St.did_wks, ih.1, ih.2]
    by_cases e : j = 0
    · subst e
      have hs : (kpS ps 0).seen kpK = some (obL []) := ho.seen
      simp [Past.add, hs]
    · simp [e, Past.add, List.range_succ]
theorem kp_run (ps : List (List UInt8)) (q : Nat) : runD ((List.range q).map (kpD ps)) (some (obL [])) = some (obL (catL ps q)) := by
  induction q with
  | zero => rfl
  | succ q ih =>
    rw [List.range_succ, List.map_append, List.map_cons, List.map_nil, runD_snoc, ih]
    simp [doneD, kpD, obL_wr, catL_succ]
/-- The torn bytes of the part behind those that are kept. -/
def tailL (ps : List (List UInt8)) (K : Nat) (t : Int) : List UInt8 := if 0 < t ∧ 1 < (ps.getD K []).length then (ps.getD K []).take (min t ((ps.getD K []).length - 1 : Nat)).toNat else []
def keepN (keep : Int) : Nat := (max keep 0).toNat
def wantW (ps : List (List UInt8)) (keep t : Int) (j : Nat) : List UInt8 := catL ps (min j (keepN keep)) ++ if keepN keep < j then tailL ps (keepN keep) t else []
theorem wantW_zero (ps : List (List UInt8)) (keep t : Int) : wantW ps keep t 0 = [] := by simp [wantW, catL]
theorem wantW_lt {ps : List (List UInt8)} {keep t : Int} {j : Nat} (h : (j : Int) < keep) : wantW ps keep t (j + 1) = wantW ps keep t j ++ ps.getD j [] := by
  have h1 : min (j + 1) (keepN keep) = j + 1 := by unfold keepN; omega
  have h2 : min j (keepN keep) = j := by unfold keepN; omega
  have h3 : ¬ keepN keep < j + 1 := by unfold keepN; omega
  have h4 : ¬ keepN keep < j := by unfold keepN; omega
  unfold wantW
  rw [h1, h2, if_neg h3, if_neg h4, catL_succ]; simp
theorem wantW_eq {ps : List (List UInt8)} {keep t : Int} {j : Nat} (h : (j : Int) = max keep 0) : wantW ps keep t (j + 1) = wantW ps keep t j ++ tailL ps j t := by
  have h0 : keepN keep = j := by unfold keepN; omega
  unfold wantW
  rw [h0, if_pos (by omega), if_neg (by omega)]
  simp
theorem wantW_gt {ps : List (List UInt8)} {keep t : Int} {j : Nat} (h : max keep 0 < (j : Int)) : wantW ps keep t (j + 1) = wantW ps keep t j := by
  have h1 : min (j + 1) (keepN keep) = min j (keepN keep) := by unfold keepN; omega
  have h3 : keepN keep < j + 1 := by unfold keepN; omega
  have h4 : keepN keep < j := by unfold keepN; omega
  unfold wantW
  rw [h1, if_pos h3, if_pos h4]
theorem wantW_len {ps : List (List UInt8)} {keep t : Int} {j : Nat} (hj : j ≤ 20) (h : ∀ i, i < j → (ps.getD i []).length ≤ 60) : (wantW ps keep t j).length ≤ 1300 := by
  have h1 := catL_len ps (M := 60) (min j (keepN keep)) fun i hi => h i (by omega)
  unfold wantW
  rw [List.length_append]
  split
  · rename_i hk
    have h2 := h (keepN keep) hk
    unfold tailL
    split
    · simp only [List.length_take]; omega
    · simp; omega
  · simp; omega
theorem kp_left (ps : List (List UInt8)) (keep t : Int) (m : Nat) (h : ∀ i, i < m → (ps.getD i []).length ≤ 60) : leftO ⟨some (obL []), (List.range m).map (kpD ps)⟩ keep t = some (obL (wantW ps keep t m)) ∧ leftN ⟨some (obL []), (List.range m).map (kpD ps)⟩ keep = min m (keepN keep) := by
  have hq : leftN ⟨some (obL []), (List.range m).map (kpD ps)⟩ keep = min m (keepN keep) := by
    unfold leftN heldI keepN
    simp only [List.length_map, List.length_range]
    omega
  refine ⟨?_, hq⟩
  unfold leftO
  rw [hq]
  have ht : ((List.range m).map (kpD ps)).take (min m (keepN keep)) = (List.range (min m (keepN keep))).map (kpD ps) := by
    rw [← List.map_take, List.take_range, Nat.min_comm, Nat.min_eq_right (by omega)]
  simp only [ht, kp_run]
  by_cases hk : keepN keep < m
  · have e1 : min m (keepN keep) = keepN keep := by omega
    have e2 : ((List.range m).map (kpD ps))[keepN keep]? = some (kpD ps (keepN keep)) := by simp [hk]
    rw [e1, e2]
    simp only [show (kpD ps (keepN keep)).kind = 1 from rfl, if_true]
    unfold wantW
    rw [if_pos hk, Nat.min_comm, Nat.min_eq_left (by omega)]
    have e3 : (tornD (kpD ps (keepN keep)) t).data = tailL ps (keepN keep) t := by
      unfold tornD tailL heldI
      simp only [kpD]
      split
      · rename_i hc
        congr 1
        omega
      · rename_i hc
        have : (min (max t 0) (max (((ps.getD (keepN keep) []).length : Int) - 1) 0)).toNat = 0 := by omega
        rw [this]; rfl
    have e4 : doneD (tornD (kpD ps (keepN keep)) t) (some (obL (catL ps (keepN keep)))) = some ((obL (catL ps (keepN keep))).wr (catL ps (keepN keep)).length (tornD (kpD ps (keepN keep)) t).data) := by
      simp [doneD, tornD, kpD]
    rw [e4, e3, obL_wr]
  · have e1 : min m (keepN keep) = m := by omega
    have e2 : ((List.range m).map (kpD ps))[m]? = .none := by simp
    rw [e1, e2]
    unfold wantW
    rw [if_neg hk, e1]
    simp
theorem kp_fall (ps : List (List UInt8)) (keep t : Int) (m : Nat) (hm : m ≤ 20) (h : ∀ i, i < m → (ps.getD i []).length ≤ 60) :
    (kpS ps m).lostN ((kpS ps m).fallL [keep]) = (m : Int) - min (max keep 0) m ∧ ((kpS ps m).fallen [keep] t).off = true ∧ One { (kpS ps m).fallen [keep] t with off := false } kpK 65536 (obL (wantW ps keep t m)) (2 * (m + 2)) := by
  have ho := kp_one ps m hm h
  have hw := kp_wet ps m hm h
  by_cases e : m = 0
  · subst e
    have hwk : (kpS ps 0).wks = [] := rfl
    have hf : (kpS ps 0).fallL [keep] = [] := by unfold St.fallL; rw [hwk]; simp [sortK]
    refine ⟨?_, rfl, ?_⟩
    · rw [hf]; unfold St.lostN St.wetN; rw [hwk]; simp; omega
    · have hg := (ho.good.fallen (by omega) [keep] t).setOff false
      refine ⟨hg, rfl, ?_, ?_, ?_, ho.ok, ho.right⟩
      · show (fallS (kpS ps 0) t ((kpS ps 0).fallL [keep])).sks = _
        rw [hf]; exact ho.sks
      · show (fallS (kpS ps 0) t ((kpS ps 0).fallL [keep])).seen kpK = _
        rw [hf, wantW_zero]; exact ho.seen
      · show (fallS (kpS ps 0) t ((kpS ps 0).fallL [keep])).room = _
        rw [hf]; exact ho.room
  · rw [if_neg e, if_neg e] at hw
    have hl := kp_left ps keep t m h
    have := fall_one ho (by omega) hw.2 hw.1 [keep] t (o' := obL (wantW ps keep t m)) hl.1
    obtain ⟨a1, a2, a3, a4⟩ := this
    refine ⟨?_, a2, a4⟩
    rw [a1]
    have e2 : [keep].getD 0 0 = keep := rfl
    rw [e2, hl.2]
    simp only [List.length_map, List.length_range]
    unfold keepN
    omega
end Go.Proofs.Ytlcenanahbaflaa
