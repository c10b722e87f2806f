/- What stays so of a store, whatever is done: its counts, what it uses, its wet deeds. -/
import Derived.Test.YtgjdabneodkmpaaStG
namespace Go.Proofs.Ytgjdabneodkmpaa
open Go.RowKit
set_option linter.unusedVariables false

theorem sum_upd {f : K4 → Int} {k : K4} {v : Int} : ∀ (l : List K4), l.Nodup → (l.map fun x => if x = k then v else f x).sum = (l.map f).sum + if k ∈ l then v - f k else 0
  | [], _ => by simp
  | a :: l, h => by
    obtain ⟨h1, h2⟩ := List.nodup_cons.1 h
    have ih := sum_upd (f := f) (k := k) (v := v) l h2
    rw [List.map_cons, List.sum_cons, ih, List.map_cons, List.sum_cons]
    by_cases e : a = k
    · subst e
      simp [h1]
      omega
    · have e2 : k ≠ a := fun x => e x.symm
      simp [e, e2]
      omega
theorem sum_filter {f : K4 → Int} {k : K4} : ∀ (l : List K4), l.Nodup → ((l.filter fun x => decide (x ≠ k)).map f).sum = (l.map f).sum - if k ∈ l then f k else 0
  | [], _ => by simp
  | a :: l, h => by
    obtain ⟨h1, h2⟩ := List.nodup_cons.1 h
    have ih := sum_filter (f := f) (k := k) l h2
    by_cases e : a = k
    · subst e
      have e3 : l.filter (fun x => decide (x ≠ a)) = l := List.filter_eq_self.2 fun y hy => by
        have : y ≠ a := fun x => h1 (x ▸ hy)
        simp [this]
      simp only [List.filter_cons, ne_eq, not_true_eq_false, decide_false, Bool.false_eq_true, if_false, List.map_cons, List.sum_cons, List.mem_cons, true_or, if_true]
      rw [e3]; omega
    · have e2 : k ≠ a := fun x => e x.symm
      simp only [List.filter_cons, ne_eq, e, not_false_eq_true, decide_true, if_true, List.map_cons, List.sum_cons, List.mem_cons, e2, false_or, ih]
      omega

/-- The bytes of all that is seen. -/
def St.acc (S : St) : Int := (S.sks.map fun k => usedOf (S.seen k)).sum
structure St.WK (S : St) : Prop where
  nd : S.sks.Nodup
  mem : ∀ k, k ∈ S.sks ↔ ((S.seen k).isSome = true ∧ k.ok)
  acc : S.used = S.acc
theorem St.WK.laid {T : St} (h : T.WK) {k : K4} (hk : k.ok) (o : Option Ob) : (T.laid k o (usedOf (T.seen k))).WK := by
  have hmk : k ∈ T.sks ↔ (T.seen k).isSome = true := by rw [h.mem]; simp [hk]
  refine ⟨?_, ?_, ?_⟩
  · unfold St.laid
    cases o with
    | none => exact h.nd.filter _
    | some o =>
      simp only
      split
      · exact h.nd
      · rename_i hs
        refine List.nodup_append.2 ⟨h.nd, by simp, fun a ha b hb => ?_⟩
        simp at hb
        subst hb
        rintro rfl
        exact hs ((h.mem a).1 ha).1
  · intro k'
    unfold St.laid
    by_cases e : k' = k
    · subst e
      cases o with
      | none => simp [upd_same]
      | some o =>
        simp only [upd_same]
        split
        · rename_i hs; simp [h.mem, hs]
        · simp [hk]
    · cases o with
      | none => simp [upd_other _ _ e, h.mem, e]
      | some o =>
        simp only [upd_other _ _ e]
        split
        · exact h.mem k'
        · simp [h.mem, e]
  · have e1 : (fun x => usedOf (upd T.seen k o x)) = fun x => if x = k then usedOf o else usedOf (T.seen x) := by
      funext x; unfold upd; split <;> rfl
    unfold St.acc St.laid
    simp only [e1]
    rw [h.acc]
    unfold St.acc
    cases o with
    | none =>
      simp only
      have e2 : ((T.sks.filter fun x => decide (x ≠ k)).map fun x => if x = k then usedOf .none else usedOf (T.seen x)) = (T.sks.filter fun x => decide (x ≠ k)).map fun x => usedOf (T.seen x) := by
        refine List.map_congr_left fun x hx => ?_
        have : x ≠ k := by simpa using (List.mem_filter.1 hx).2
        rw [if_neg this]
      rw [e2, sum_filter (f := fun x => usedOf (T.seen x)) T.sks h.nd]
      have e3 : usedOf (.none : Option Ob) = 0 := rfl
      rw [e3]
      split
      · omega
      · rename_i hm
        have : T.seen k = .none := by
          cases hs : T.seen k with
          | none => rfl
          | some o => exact absurd (hmk.2 (by simp [hs])) hm
        rw [this, e3]
        omega
    | some o =>
      simp only
      split
      · rename_i hs
        rw [sum_upd (f := fun x => usedOf (T.seen x)) T.sks h.nd, if_pos (hmk.2 hs)]
      · rename_i hs
        have hm : k ∉ T.sks := fun e => hs (hmk.1 e)
        have : T.seen k = .none := by
          cases hs2 : T.seen k with
          | none => rfl
          | some o => simp [hs2] at hs
        rw [List.map_append, List.sum_append, sum_upd (f := fun x => usedOf (T.seen x)) T.sks h.nd, if_neg hm, this]
        simp [usedOf]

/-- All that stays so; n deeds were done at most. -/
structure St.Good (S : St) (n : Nat) : Prop where
  wf : S.WF
  acc : S.used = S.acc
  wks : S.wks.length ≤ n
  sks : S.sks.length ≤ n
  deeds : 0 ≤ S.deeds ∧ S.deeds ≤ n
  row : ∀ k p, S.wet k = some p → p.deeds.length ≤ n
  named : ∀ k o, S.seen k = some o → o.named ≤ (n : Int) * 5000
  legs : ∀ k p, S.wet k = some p → k.ok → p.Leg ∧ ∀ o, p.dry = some o → 0 ≤ o.named ∧ o.named + 5000 * (p.deeds.length : Int) ≤ (n : Int) * 5000
  past : ∀ k p, S.wet k = some p → k.ok → S.seen k = runD p.deeds p.dry
theorem usedOf_nn {o : Option Ob} (h : ∀ o', o = some o' → 0 ≤ o'.named) : 0 ≤ usedOf o := by
  cases o with
  | none => simp [usedOf]
  | some o => have := h o rfl; simp only [usedOf]; omega
theorem St.acc_bd {S : St} {M : Int} : ∀ (l : List K4), (∀ k ∈ l, 0 ≤ usedOf (S.seen k) ∧ usedOf (S.seen k) ≤ M) → 0 ≤ (l.map fun k => usedOf (S.seen k)).sum ∧ (l.map fun k => usedOf (S.seen k)).sum ≤ l.length * M
  | [], _ => by simp
  | a :: l, h => by
    have ih := St.acc_bd l fun k hk => h k (List.mem_cons_of_mem _ hk)
    have h1 := h a List.mem_cons_self
    rw [List.map_cons, List.sum_cons, List.length_cons]
    have e : ((l.length + 1 : Nat) : Int) * M = l.length * M + M := by push_cast; rw [Int.add_mul]; omega
    rw [e]
    omega
theorem St.Good.used_bd {S : St} {n : Nat} (h : S.Good n) : 0 ≤ S.used ∧ S.used ≤ (n : Int) * ((n : Int) * 5000 + 16384) := by
  have h1 := St.acc_bd (S := S) (M := (n : Int) * 5000 + 16384) S.sks (fun k hk => by
    cases hs : S.seen k with
    | none => simp [usedOf]; omega
    | some o => have := h.wf.seen k o hs; have := h.named k o hs; simp only [usedOf]; omega)
  have h2 : (S.sks.length : Int) * ((n : Int) * 5000 + 16384) ≤ (n : Int) * ((n : Int) * 5000 + 16384) := Int.mul_le_mul_of_nonneg_right (by have := h.sks; omega) (by omega)
  have := h.acc
  unfold St.acc at this
  omega
theorem St.Good.sm {S : St} {n : Nat} (h : S.Good n) (hn : n ≤ 1000) : S.Sm n := by
  refine ⟨h.wks, h.sks, h.deeds, ?_, h.row, fun k o ho => by have := h.named k o ho; omega⟩
  have h1 := h.used_bd
  have h2 : (n : Int) * ((n : Int) * 5000 + 16384) ≤ 1000 * 5016384 := Int.mul_le_mul (by omega) (by omega) (by omega) (by omega)
  omega
theorem St.Good.leg {S : St} {n : Nat} (h : S.Good n) (hn : n ≤ 1000) : S.Legs := fun k p hp hk => by
  obtain ⟨h1, h2⟩ := h.legs k p hp hk
  exact ⟨h1, fun o ho => by have := h2 o ho; omega⟩
theorem St.Good.mono {S : St} {n m : Nat} (h : S.Good n) (hm : n ≤ m) : S.Good m :=
  ⟨h.wf, h.acc, Nat.le_trans h.wks hm, Nat.le_trans h.sks hm, ⟨h.deeds.1, by have := h.deeds.2; omega⟩, fun k p hp => Nat.le_trans (h.row k p hp) hm, fun k o ho => by have := h.named k o ho; omega,
    fun k p hp hk => ⟨(h.legs k p hp hk).1, fun o ho => by have := (h.legs k p hp hk).2 o ho; omega⟩, h.past⟩
theorem St.Good.new (room : Int) : (St.new room).Good 0 := by
  refine ⟨⟨?_, ?_, fun k => ?_, fun k => ?_, fun k o ho => ?_⟩, rfl, Nat.le_refl _, Nat.le_refl _, by simp [St.new], fun k p h => ?_, fun k o ho => ?_, fun k p h => ?_, fun k p h => ?_⟩
  · unfold St.new heldI; simp only; omega
  · exact ⟨List.nodup_nil, List.nodup_nil⟩
  · simp [St.new]
  · simp [St.new]
  all_goals first | (simp [St.new] at ho; done) | (simp [St.new] at h; done)
theorem St.did_wet (S : St) (k : K4) (d : Deed) : (S.did k d).wet = upd S.wet k (some ((match S.wet k with | some p => p | .none => ⟨S.seen k, []⟩).add d)) := by
  unfold St.did St.laid St.logged St.opened
  cases h : S.wet k with
  | some p => simp [h]
  | none =>
    simp only [upd_same]
    funext x
    unfold upd
    split <;> simp_all
theorem St.did_wks (S : St) (k : K4) (d : Deed) : (S.did k d).wks = if (S.wet k).isSome then S.wks else S.wks ++ [k] := by
  unfold St.did St.laid St.logged St.opened
  cases h : S.wet k with
  | some p => simp
  | none => simp
theorem St.did_seen (S : St) (k : K4) (d : Deed) : (S.did k d).seen = upd S.seen k (doneD d (S.seen k)) := by
  unfold St.did St.laid
  rw [(St.logged_seen S k d).1]
theorem St.did_rest (S : St) (k : K4) (d : Deed) : (S.did k d).room = S.room ∧ (S.did k d).off = S.off ∧ (S.did k d).deeds = S.deeds + 1 := by
  unfold St.did St.laid
  obtain ⟨_, _, _, _, h5, h6⟩ := St.logged_seen S k d
  exact ⟨h5, h6, rfl⟩
theorem Past.Leg.add {p : Past} (hne : p.deeds = [] ∨ p.Leg) (hdry : ∀ o, p.dry = some o → o.bytes.length ≤ 16384) {d : Deed} (hc : canD d (runD p.deeds p.dry)) (hl : p.deeds.length < 100000) : (p.add d).Leg := by
  refine ⟨by simp [Past.add], by simp [Past.add]; omega, hdry, fun i e h => ?_⟩
  simp only [Past.add] at h ⊢
  by_cases hi : i < p.deeds.length
  · rcases hne with h0 | hL
    · rw [h0] at hi; simp at hi
    · rw [List.getElem?_append_left hi] at h
      rw [List.take_append_of_le_length (by omega)]
      exact hL.can i e h
  · rw [List.getElem?_append_right (by omega)] at h
    have e2 : i - p.deeds.length = 0 := by
      have := (List.getElem?_eq_some_iff.1 h).1
      simp at this; omega
    rw [e2] at h
    simp at h
    subst h
    have e3 : i = p.deeds.length := by omega
    rw [e3, List.take_append_of_le_length (Nat.le_refl _), List.take_length]
    exact hc
theorem St.Good.did {S : St} {n : Nat} (h : S.Good n) (hn : n ≤ 1000) {k : K4} (hk : k.ok) {d : Deed} (hc : canD d (S.seen k)) : (S.did k d).Good (n + 1) := by
  have hbd := doneD_bd hc (N := (n : Int) * 5000) (by omega) (fun o ho => ⟨(h.wf.seen k o ho).1, (h.wf.seen k o ho).2, h.named k o ho⟩)
  have hwk : (S.did k d).WK := by
    have h0 : (S.logged k d).WK := by
      obtain ⟨e1, e2, e3, _⟩ := St.logged_seen S k d
      refine ⟨by rw [e2]; exact h.wf.nd.1, by rw [e1, e2]; exact h.wf.sks, ?_⟩
      unfold St.acc; rw [e1, e2, e3]; exact h.acc
    have h1 := h0.laid hk (doneD d (S.seen k))
    rw [(St.logged_seen S k d).1] at h1
    exact ⟨h1.nd, h1.mem, h1.acc⟩
  have hpp : ∀ p, S.wet k = some p → (p.add d).Leg := fun p hp => by
    obtain ⟨l1, l2⟩ := h.legs k p hp hk
    refine Past.Leg.add (.inr l1) l1.dry ?_ (by have := h.row k p hp; omega)
    rw [← h.past k p hp hk]; exact hc
  have hpn : S.wet k = .none → (Past.add ⟨S.seen k, []⟩ d).Leg := fun hp => Past.Leg.add (.inl rfl) (fun o ho => (h.wf.seen k o ho).1) (by simpa [runD] using hc) (by simp)
  refine ⟨⟨by rw [(S.did_rest k d).1]; exact h.wf.room, ⟨hwk.nd, ?_⟩, hwk.mem, fun k' => ?_, fun k' o ho => ?_⟩, hwk.acc, ?_, ?_, ?_, fun k' p hp => ?_, fun k' o ho => ?_, fun k' p hp hk' => ?_, fun k' p hp hk' => ?_⟩
  · rw [S.did_wks]
    split
    · exact h.wf.nd.2
    · rename_i hs
      refine List.nodup_append.2 ⟨h.wf.nd.2, by simp, fun a ha b hb => ?_⟩
      simp at hb
      subst hb
      rintro rfl
      exact hs ((h.wf.wks a).1 ha).1
  · rw [S.did_wks, S.did_wet]
    by_cases e : k' = k
    · subst e
      rw [upd_same]
      split
      · rename_i hs; simp [h.wf.wks, hs]
      · simp [hk]
    · rw [upd_other _ _ e]
      split
      · exact h.wf.wks k'
      · simp [h.wf.wks, e]
  · rw [S.did_seen] at ho
    by_cases e : k' = k
    · subst e
      rw [upd_same] at ho
      exact ⟨(hbd o ho).1, (hbd o ho).2.1⟩
    · rw [upd_other _ _ e] at ho
      exact h.wf.seen k' o ho
  · rw [S.did_wks]
    have := h.wks
    split
    · omega
    · simp; omega
  · have := h.sks
    show ((S.logged k d).laid k (doneD d (S.seen k)) (usedOf (S.seen k))).sks.length ≤ n + 1
    unfold St.laid
    rw [(St.logged_seen S k d).2.1]
    cases doneD d (S.seen k) with
    | none =>
      have := List.length_filter_le (fun x => decide (x ≠ k)) S.sks
      simp only; omega
    | some o =>
      simp only
      split
      · omega
      · simp; omega
  · rw [(S.did_rest k d).2.2]; have := h.deeds; omega
  · rw [S.did_wet] at hp
    by_cases e : k' = k
    · subst e
      rw [upd_same] at hp
      cases hp
      cases hw : S.wet k' with
      | none => simp [Past.add]
      | some p => have := h.row k' p hw; simp [Past.add]; omega
    · rw [upd_other _ _ e] at hp
      have := h.row k' p hp; omega
  · rw [S.did_seen] at ho
    by_cases e : k' = k
    · subst e
      rw [upd_same] at ho
      have := hbd o ho; omega
    · rw [upd_other _ _ e] at ho
      have := h.named k' o ho; omega
  · rw [S.did_wet] at hp
    by_cases e : k' = k
    · subst e
      rw [upd_same] at hp
      cases hp
      cases hw : S.wet k' with
      | none => exact ⟨hpn hw, fun o ho => by
          have a1 := h.wf.seen k' o ho
          have a2 := h.named k' o ho
          have a3 : (Past.add ⟨S.seen k', []⟩ d).deeds.length = 1 := rfl
          show 0 ≤ o.named ∧ o.named + 5000 * ((Past.add ⟨S.seen k', []⟩ d).deeds.length : Int) ≤ _
          omega⟩
      | some p => exact ⟨hpp p hw, fun o ho => by
          have a1 := (h.legs k' p hw hk').2 o ho
          have a3 : (p.add d).deeds.length = p.deeds.length + 1 := by simp [Past.add]
          show 0 ≤ o.named ∧ o.named + 5000 * ((p.add d).deeds.length : Int) ≤ _
          omega⟩
    · rw [upd_other _ _ e] at hp
      obtain ⟨l1, l2⟩ := h.legs k' p hp hk'
      exact ⟨l1, fun o ho => by have := l2 o ho; omega⟩
  · rw [S.did_wet] at hp
    rw [S.did_seen]
    by_cases e : k' = k
    · subst e
      rw [upd_same] at hp ⊢
      cases hp
      cases hw : S.wet k' with
      | none => simp [Past.add, runD]
      | some p =>
        simp only [Past.add]
        rw [runD_snoc, ← h.past k' p hw hk']
    · rw [upd_other _ _ e] at hp ⊢
      exact h.past k' p hp hk'
theorem St.Good.dried {S : St} {n : Nat} (h : S.Good n) : S.dried.Good (n + 1) := by
  refine ⟨⟨h.wf.room, ⟨h.wf.nd.1, List.nodup_nil⟩, h.wf.sks, fun k => by simp [St.dried], h.wf.seen⟩, h.acc, by simp [St.dried], Nat.le_succ_of_le h.sks, ?_, fun k p hp => by simp [St.dried] at hp, fun k o ho => by have := h.named k o ho; omega, fun k p hp => by simp [St.dried] at hp, fun k p hp => by simp [St.dried] at hp⟩
  have := h.deeds
  simp only [St.dried]; omega
theorem St.Good.setOff {S : St} {n : Nat} (h : S.Good n) (u : Bool) : { S with off := u }.Good n :=
  ⟨⟨h.wf.room, h.wf.nd, h.wf.sks, h.wf.wks, h.wf.seen⟩, h.acc, h.wks, h.sks, h.deeds, h.row, h.named, h.legs, h.past⟩
theorem St.Good.fallen {S : St} {n : Nat} (h : S.Good n) (hn : n ≤ 1000) (keep : List Int) (t : Int) : (S.fallen keep t).Good (2 * n) := by
  have hall := FB.all h.wf (h.sm hn) (h.leg hn) keep t S.wks.length
  have he : (S.fallL keep).take S.wks.length = S.fallL keep := List.take_of_length_le (by rw [fallL_len]; exact Nat.le_refl _)
  rw [he] at hall
  have hw : ∀ j, (fallS S t ((S.fallL keep).take j)).WK ∧ ∀ k o, (fallS S t ((S.fallL keep).take j)).seen k = some o → o.named ≤ (n : Int) * 5000 := by
    intro j
    induction j with
    | zero => exact ⟨⟨h.wf.nd.1, h.wf.sks, h.acc⟩, h.named⟩
    | succ j ih =>
      cases hx : (sortK S.wks)[j]? with
      | none =>
        have hj : (S.fallL keep).length ≤ j := by rw [fallL_len, ← sortK_length]; exact List.getElem?_eq_none_iff.1 hx
        have e : (S.fallL keep).take (j + 1) = (S.fallL keep).take j := by rw [List.take_of_length_le (by omega), List.take_of_length_le (by omega)]
        rw [e]; exact ih
      | some k =>
        rw [take_snoc (fallL_get S keep j hx), fallS_snoc]
        have hkm : k ∈ S.wks := sortK_mem.1 (List.mem_of_getElem? hx)
        have hk := (h.wf.wks k).1 hkm
        refine ⟨ih.1.laid hk.2 _, fun k' o ho => ?_⟩
        simp only [St.laid] at ho
        by_cases e : k' = k
        · subst e
          rw [upd_same] at ho
          unfold St.leftOf at ho
          cases hw : S.wet k' with
          | none => simp [hw] at ho
          | some p =>
            simp only [hw] at ho
            obtain ⟨l1, l2⟩ := h.legs k' p hw hk.2
            exact (l1.left_bd (M := (n : Int) * 5000) (by have := h.row k' p hw; omega) l2 _ _ o ho).2.2
        · rw [upd_other _ _ e] at ho
          exact ih.2 k' o ho
  obtain ⟨h1, h2⟩ := hw S.wks.length
  rw [he] at h1 h2
  refine ⟨⟨?_, ⟨hall.nd, List.nodup_nil⟩, hall.mem, fun k => by simp [St.fallen], fun k o ho => ⟨(hall.seen k o ho).1, (hall.seen k o ho).2.1⟩⟩, h1.acc, by simp [St.fallen], ?_, ?_, fun k p hp => by simp [St.fallen] at hp, fun k o ho => by have := h2 k o ho; omega, fun k p hp => by simp [St.fallen] at hp, fun k p hp => by simp [St.fallen] at hp⟩
  · have e : (S.fallen keep t).room = S.room := hall.same.2.2.1
    rw [e]; exact h.wf.room
  · show (fallS S t (S.fallL keep)).sks.length ≤ _
    have := hall.len
    have := h.wks
    omega
  · have e : (S.fallen keep t).deeds = S.deeds := hall.same.2.2.2.1
    rw [e]
    have := h.deeds; omega
end Go.Proofs.Ytgjdabneodkmpaa
