/- Ways from one image to another; no program in sight. | Ways: no byte is written that was right already; no program in sight. -/
import Derived.Test.YtbpddcmehjgleaaMdPlain
namespace Go.Proofs.Ytbpddcmehjgleaa
set_option linter.unusedVariables false
set_option linter.unnecessarySimpa false
set_option linter.unusedSimpArgs false

/-! ### runs of bytes that are unlike -/
/-- How many bytes from i on are unlike, side by side; k at most. -/
def runU (s b : List UInt8) (i : Nat) : Nat → Nat
  | 0 => 0
  | k + 1 => if i < b.length ∧ s[i]? ≠ b[i]? then runU s b (i + 1) k + 1 else 0
theorem runU_le (s b : List UInt8) : ∀ k i, runU s b i k ≤ k
  | 0, i => Nat.le_refl _
  | k + 1, i => by
    unfold runU; split
    · have := runU_le s b k (i + 1); omega
    · omega
theorem runU_end (s b : List UInt8) : ∀ k i, i ≤ b.length → i + runU s b i k ≤ b.length
  | 0, i, h => by simpa [runU] using h
  | k + 1, i, h => by
    unfold runU; split
    · rename_i c
      have := runU_end s b k (i + 1) (by omega); omega
    · omega
theorem runU_unlike (s b : List UInt8) : ∀ k i j, i ≤ j → j < i + runU s b i k → s[j]? ≠ b[j]?
  | 0, i, j, h1, h2 => by simp [runU] at h2; omega
  | k + 1, i, j, h1, h2 => by
    unfold runU at h2
    split at h2
    · rename_i c
      by_cases e : j = i
      · subst e; exact c.2
      · exact runU_unlike s b k (i + 1) j (by omega) (by omega)
    · omega
theorem runU_stop (s b : List UInt8) : ∀ k i, runU s b i k < k → i + runU s b i k < b.length → s[i + runU s b i k]? = b[i + runU s b i k]?
  | 0, i, h, _ => by omega
  | k + 1, i, h, h2 => by
    unfold runU at h h2 ⊢
    split at h
    · rename_i c
      rw [if_pos c] at h2 ⊢
      have := runU_stop s b k (i + 1) (by omega) (by omega)
      rw [show i + (runU s b (i + 1) k + 1) = i + 1 + runU s b (i + 1) k by omega]
      exact this
    · rename_i c
      rw [if_neg c] at h2 ⊢
      rw [Nat.add_zero] at h2 ⊢
      exact Classical.byContradiction fun h3 => c ⟨h2, h3⟩
/-- What is written there. -/
def pieceD (b : List UInt8) (i n : Nat) : Ev := if ((b.drop i).take n).all (fun x => decide (x = 0)) then ⟨3, i, n, [], []⟩ else ⟨1, i, 0, (b.drop i).take n, []⟩
def piecesF (s b : List UInt8) : Nat → Nat → List Ev
  | 0, _ => []
  | f + 1, i => if i < b.length then (if runU s b i 64 = 0 then piecesF s b f (i + 1) else pieceD b i (runU s b i 64) :: piecesF s b f (i + runU s b i 64)) else []
def bytesD (a b : List UInt8) : List Ev := if 512 < a.length ∨ 512 < b.length then [] else (if a.length = b.length then [] else [⟨4, 0, b.length, [], []⟩]) ++ piecesF (sizedL a b.length) b (b.length + 1) 0
theorem piecesF_end {s b : List UInt8} {f i : Nat} (h : b.length ≤ i) : piecesF s b f i = [] := by
  cases f with
  | zero => rfl
  | succ f => unfold piecesF; rw [if_neg (by omega)]
theorem piecesF_fuel : ∀ {f g : Nat} {s b : List UInt8} {i : Nat}, b.length - i < f → b.length - i < g → piecesF s b f i = piecesF s b g i
  | 0, _, _, _, _, h, _ => by omega
  | _ + 1, 0, _, _, _, _, h => by omega
  | f + 1, g + 1, s, b, i, h1, h2 => by
    unfold piecesF
    split
    · rename_i hi
      split
      · exact piecesF_fuel (by omega) (by omega)
      · rw [piecesF_fuel (f := f) (g := g) (by omega) (by omega)]
    · rfl
/-- The events of two rows of bytes of one length. -/
theorem pieceD_right {b : List UInt8} {i n : Nat} (hn : 1 ≤ n) (h64 : n ≤ 64) (hi : i + n ≤ b.length) (hb : b.length ≤ 512) : (pieceD b i n).right = true ∧ ((pieceD b i n).kind = 1 ∨ (pieceD b i n).kind = 3) ∧ spanA (pieceD b i n) = ((i : Int), (n : Int)) := by
  have hl : ((b.drop i).take n).length = n := by rw [List.length_take, List.length_drop]; omega
  unfold pieceD
  split
  · have hr : Ev.right ⟨3, (i : Int), (n : Int), [], []⟩ = true := right_iff.2 (.inr (.inl ⟨.inr rfl, rfl, within_iff.2 (by simp only; omega), rfl⟩))
    exact ⟨hr, .inr rfl, span_2 hr (.inr rfl)⟩
  · have hr : Ev.right ⟨1, (i : Int), 0, (b.drop i).take n, []⟩ = true := right_iff.2 (.inl ⟨rfl, by simp only; omega, within_iff.2 (by simp only; rw [hl]; omega), rfl, rfl⟩)
    refine ⟨hr, .inl rfl, ?_⟩
    rw [span_1 hr rfl]
    simp only
    rw [hl]
theorem all_zero {l : List UInt8} (h : l.all (fun x => decide (x = 0)) = true) : l = List.replicate l.length 0 := by
  rw [List.eq_replicate_iff]
  exact ⟨rfl, fun x hx => by simpa using List.all_eq_true.1 h x hx⟩
theorem pieceD_done {b t : List UInt8} {sn : List Od} {i n : Nat} (hn : 1 ≤ n) (h64 : n ≤ 64) (hi : i + n ≤ b.length) (hb : b.length ≤ 512) (ht : t.length = b.length) :
    checkM ⟨t, sn⟩ (pieceD b i n) = 0 ∧ doneM ⟨t, sn⟩ (pieceD b i n) = ⟨layB t i ((b.drop i).take n), sn⟩ := by
  obtain ⟨hr, hk, hs⟩ := pieceD_right hn h64 hi hb
  have hl : ((b.drop i).take n).length = n := by rw [List.length_take, List.length_drop]; omega
  constructor
  · unfold checkM
    rw [if_neg (by rw [hr]; simp), if_pos (by omega), hs]
    simp only
    rw [if_neg (by omega)]
  · unfold pieceD doneM
    split
    · rename_i hz
      simp only
      rw [if_neg (by omega), if_pos (.inr trivial)]
      have := all_zero hz
      rw [hl] at this
      simp only [Int.toNat_natCast]
      rw [← this]
    · simp only
      rw [if_pos trivial]
      simp
/-- The state under way: right below i, as it was behind. -/
def MidD (s b t : List UInt8) (i : Nat) : Prop := t.length = b.length ∧ (∀ j, j < i → t[j]? = b[j]?) ∧ ∀ j, i ≤ j → t[j]? = s[j]?
theorem MidD.skip {s b t : List UInt8} {i : Nat} (h : MidD s b t i) (he : s[i]? = b[i]?) : MidD s b t (i + 1) := ⟨h.1, fun j hj => by
  by_cases c : j = i
  · subst c; rw [h.2.2 j (Nat.le_refl _), he]
  · exact h.2.1 j (by omega), fun j hj => h.2.2 j (by omega)⟩
theorem layB_get {t p : List UInt8} {i : Nat} (h : i + p.length ≤ t.length) (j : Nat) : (layB t i p)[j]? = if j < i then t[j]? else if j < i + p.length then p[j - i]? else t[j]? := by
  unfold layB
  have hl : (t.take i).length = i := by rw [List.length_take]; omega
  by_cases c : j < i
  · rw [if_pos c, List.getElem?_append_left (by omega), List.getElem?_take, if_pos c]
  · rw [if_neg c, List.getElem?_append_right (by omega), hl]
    by_cases c2 : j < i + p.length
    · rw [if_pos c2, List.getElem?_append_left (by omega)]
    · rw [if_neg c2, List.getElem?_append_right (by omega), List.getElem?_drop]
      congr 1; omega
theorem MidD.put {s b t : List UInt8} {i n : Nat} (h : MidD s b t i) (hi : i + n ≤ b.length) : MidD s b (layB t i ((b.drop i).take n)) (i + n) := by
  have hl : ((b.drop i).take n).length = n := by rw [List.length_take, List.length_drop]; omega
  have hg := layB_get (t := t) (p := (b.drop i).take n) (i := i) (by rw [hl, h.1]; exact hi)
  refine ⟨by rw [layB_len (by rw [hl, h.1]; exact hi), h.1], fun j hj => ?_, fun j hj => ?_⟩
  · rw [hg j, hl]
    by_cases c : j < i
    · rw [if_pos c]; exact h.2.1 j c
    · rw [if_neg c, if_pos hj, List.getElem?_take, if_pos (by omega), List.getElem?_drop]
      congr 1; omega
  · rw [hg j, hl, if_neg (by omega), if_neg (by omega)]
    exact h.2.2 j (by omega)
theorem MidD.all {s b t : List UInt8} {i : Nat} (h : MidD s b t i) (hi : b.length ≤ i) : t = b := by
  apply List.ext_getElem?
  intro j
  by_cases c : j < i
  · exact h.2.1 j c
  · rw [List.getElem?_eq_none (by have := h.1; omega), List.getElem?_eq_none (by omega)]
/-- Each event is taken where it stands, and changes what is there. -/
def LeadM : Sx → List Ev → Sx → Prop
  | s, [], t => s = t
  | s, e :: l, t => checkM s e = 0 ∧ doneM s e ≠ s ∧ LeadM (doneM s e) l t
theorem LeadM.app : ∀ {s t u : Sx} {l m : List Ev}, LeadM s l t → LeadM t m u → LeadM s (l ++ m) u
  | s, t, u, [], m, h, h2 => by have : s = t := h; subst this; exact h2
  | s, t, u, e :: l, m, h, h2 => ⟨h.1, h.2.1, LeadM.app h.2.2 h2⟩
theorem LeadM.fold : ∀ {s t : Sx} {l : List Ev}, LeadM s l t → foldM s l = t
  | s, t, [], h => h
  | s, t, e :: l, h => by rw [foldM_cons, stepM_yes h.1]; exact LeadM.fold h.2.2
theorem pieces_lead {s b : List UInt8} {sn : List Od} (hb : b.length ≤ 512) : ∀ (f i : Nat) (t : List UInt8), MidD s b t i → b.length - i < f → LeadM ⟨t, sn⟩ (piecesF s b f i) ⟨b, sn⟩
  | 0, i, t, h, hf => by omega
  | f + 1, i, t, h, hf => by
    unfold piecesF
    split
    · rename_i hi
      split
      · rename_i h0
        refine pieces_lead hb f (i + 1) t (h.skip ?_) (by omega)
        have := runU_stop s b 64 i (by omega) (by omega)
        rw [h0, Nat.add_zero] at this
        exact this
      · rename_i h0
        have h1 := runU_le s b 64 i
        have h2 := runU_end s b 64 i (by omega)
        have h3 := runU_unlike s b 64 i i (Nat.le_refl _) (by omega)
        generalize runU s b i 64 = n at *
        obtain ⟨c1, c2⟩ := pieceD_done (sn := sn) (i := i) (n := n) (by omega) h1 h2 hb h.1
        refine ⟨c1, ?_, ?_⟩
        · rw [c2]
          intro e
          have e2 : layB t i ((b.drop i).take n) = t := congrArg Sx.data e
          have h4 := (h.put h2).2.1 i (by omega)
          rw [e2, h.2.2 i (Nat.le_refl _)] at h4
          exact h3 h4
        · rw [c2]; exact pieces_lead hb f (i + n) _ (h.put h2) (by omega)
    · rename_i hi
      have := h.all (by omega)
      subst this
      rfl
theorem bytes_lead {a b : List UInt8} {sn : List Od} (ha : a.length ≤ 512) (hb : b.length ≤ 512) : LeadM ⟨a, sn⟩ (bytesD a b) ⟨b, sn⟩ := by
  unfold bytesD
  rw [if_neg (by omega)]
  have hm : MidD (sizedL a b.length) b (sizedL a b.length) 0 := ⟨sizedL_len _ _, fun j hj => by omega, fun j _ => rfl⟩
  by_cases c : a.length = b.length
  · rw [if_pos c, List.nil_append]
    have e : sizedL a b.length = a := by
      unfold sizedL
      rw [← c, Nat.sub_self, List.replicate_zero, List.append_nil, List.take_length]
    rw [e] at hm ⊢
    exact pieces_lead hb _ 0 a hm (by omega)
  · rw [if_neg c]
    have hr : Ev.right ⟨4, 0, (b.length : Int), [], []⟩ = true := right_iff.2 (.inr (.inr (.inl ⟨rfl, rfl, rfl, by simp only; omega, by simp only; omega, rfl⟩)))
    have hd : doneM ⟨a, sn⟩ ⟨4, 0, (b.length : Int), [], []⟩ = ⟨sizedL a b.length, sn⟩ := by unfold doneM; simp
    refine ⟨?_, ?_, ?_⟩
    · unfold checkM; rw [if_neg (by rw [hr]; simp)]; simp
    · rw [hd]; intro e
      have := congrArg (fun x : Sx => x.data.length) e
      simp only [sizedL_len] at this
      exact c this.symm
    · rw [hd]; exact pieces_lead hb _ 0 _ hm (by omega)
/-- From one to itself there is no way. -/
theorem pieces_same (b : List UInt8) : ∀ f i, piecesF b b f i = []
  | 0, i => rfl
  | f + 1, i => by
    unfold piecesF
    split
    · have h0 : runU b b i 64 = 0 := by
        show (if i < b.length ∧ b[i]? ≠ b[i]? then _ else 0) = 0
        rw [if_neg (fun h => h.2 rfl)]
      rw [if_pos h0]; exact pieces_same b f (i + 1)
    · rfl
theorem sizedL_self (b : List UInt8) : sizedL b b.length = b := by unfold sizedL; simp
theorem bytes_same (b : List UInt8) : bytesD b b = [] := by
  unfold bytesD
  split
  · rfl
  · rw [if_pos rfl, List.nil_append, sizedL_self]; exact pieces_same b _ 0

/-! ### ways from one image to another -/
/-- How many snapshots are alike at the beginnings of both. -/
def preK : List Od → List Od → Nat
  | a :: l, b :: m => if a = b then preK l m + 1 else 0
  | _, _ => 0
theorem preK_le : ∀ l m, preK l m ≤ l.length ∧ preK l m ≤ m.length
  | a :: l, b :: m => by
    unfold preK; split
    · have := preK_le l m; simp only [List.length_cons]; omega
    · simp only [List.length_cons]; omega
  | [], m => by unfold preK; simp
  | a :: l, [] => by unfold preK; simp
theorem preK_take : ∀ (l m : List Od), l.take (preK l m) = m.take (preK l m)
  | a :: l, b :: m => by
    unfold preK; split
    · rename_i h
      rw [List.take_succ_cons, List.take_succ_cons, preK_take l m, h]
    · rfl
  | [], m => by unfold preK; simp
  | a :: l, [] => by unfold preK; simp
theorem preK_self : ∀ l, preK l l = l.length
  | [] => rfl
  | a :: l => by unfold preK; rw [if_pos rfl, preK_self l]; rfl
def unsE (o : Od) : Ev := ⟨6, 0, 0, [], o.name⟩
def snE (o : Od) : Ev := ⟨5, 0, 0, [], o.name⟩
/-- To snapshots one behind the other, from bytes on. -/
def snapsD : List UInt8 → List Od → List Ev
  | _, [] => []
  | now, o :: l => (bytesD now o.data ++ [snE o]) ++ snapsD o.data l
def lastD (now : List UInt8) (l : List Od) : List UInt8 := (l.getLast?.map (·.data)).getD now
def wayD (a b : Sx) : List Ev := (a.snaps.drop (preK a.snaps b.snaps)).reverse.map unsE ++ (snapsD a.data (b.snaps.drop (preK a.snaps b.snaps)) ++ bytesD (lastD a.data (b.snaps.drop (preK a.snaps b.snaps))) b.data)
theorem place_last {l : List Od} {o : Od} (h : ApartO (l ++ [o])) : placeO (l ++ [o]) o.name = some l.length := by
  unfold placeO
  rw [List.findIdx?_eq_some_iff_getElem]
  refine ⟨by simp, by simp, fun j hj => ?_⟩
  have := h j l.length l[j] o hj (by rw [List.getElem?_append_left hj]; exact List.getElem?_eq_getElem hj) (by simp)
  simp only [decide_eq_true_eq]
  rw [List.getElem_append_left hj]
  exact this
theorem look_fresh {l : List Od} {o : Od} (h : ApartO (l ++ [o])) : placeO l o.name = none := by
  rw [placeO_none]
  unfold lookO
  rw [List.find?_eq_none]
  intro a ha
  obtain ⟨j, hj⟩ := List.mem_iff_getElem?.1 ha
  have hl := (List.getElem?_eq_some_iff.1 hj).1
  have := h j l.length a o hl (by rw [List.getElem?_append_left hl]; exact hj) (by simp)
  simpa using this
theorem uns_lead (d : List UInt8) (pre : List Od) : ∀ (n : Nat) (r : List Od), r.length = n → ApartO (pre ++ r) → (∀ o ∈ pre ++ r, nameOk o.name = true) → LeadM ⟨d, pre ++ r⟩ (r.reverse.map unsE) ⟨d, pre⟩
  | 0, r, hn, _, _ => by
    have := List.length_eq_zero_iff.1 hn
    subst this
    show (⟨d, pre ++ []⟩ : Sx) = ⟨d, pre⟩
    rw [List.append_nil]
  | n + 1, r, hn, ha, hnm => by
    obtain ⟨q, o, rfl⟩ : ∃ q o, r = q ++ [o] := ⟨r.dropLast, r.getLast (fun e => by subst e; simp at hn), (List.dropLast_concat_getLast _).symm⟩
    rw [List.reverse_append]
    simp only [List.reverse_cons, List.reverse_nil, List.nil_append, List.singleton_append, List.map_cons]
    rw [← List.append_assoc] at ha hnm ⊢
    have hp := place_last ha
    have hr : (unsE o).right = true := right_iff.2 (.inr (.inr (.inr (.inl ⟨.inr (.inl rfl), rfl, rfl, rfl, hnm o (by simp)⟩))))
    have hd : doneM ⟨d, pre ++ q ++ [o]⟩ (unsE o) = ⟨d, pre ++ q⟩ := by
      unfold doneM unsE
      simp only [show ¬ ((6 : Int) = 1) by omega, show ¬ ((6 : Int) = 2 ∨ (6 : Int) = 3) by omega, show ¬ ((6 : Int) = 4) by omega, show ¬ ((6 : Int) = 5) by omega, if_false, if_true]
      rw [hp]
      simp only [Option.getD_some]
      congr 1
      rw [List.eraseIdx_append_of_length_le (Nat.le_refl _), Nat.sub_self]
      simp
    refine ⟨?_, ?_, ?_⟩
    · unfold checkM
      rw [if_neg (by rw [hr]; simp)]
      unfold unsE
      simp only
      rw [if_neg (by omega), if_neg (by omega), if_pos (.inl trivial), hp]; rfl
    · rw [hd]; intro e
      have := congrArg (fun x : Sx => x.snaps.length) e
      simp at this
    · rw [hd]
      have hs : (pre ++ q).Sublist (pre ++ q ++ [o]) := List.sublist_append_left _ _
      exact uns_lead d pre n q (by simpa using hn) (apartO_sub ha hs) (fun x hx => hnm x (hs.subset hx))
theorem snaps_lead : ∀ (l : List Od) (now : List UInt8) (pre : List Od), now.length ≤ 512 → ApartO (pre ++ l) → (∀ o ∈ l, nameOk o.name = true ∧ o.data.length ≤ 512) → pre.length + l.length ≤ 8 → LeadM ⟨now, pre⟩ (snapsD now l) ⟨lastD now l, pre ++ l⟩
  | [], now, pre, _, _, _, _ => by
    show (⟨now, pre⟩ : Sx) = ⟨lastD now [], pre ++ []⟩
    rw [List.append_nil]; rfl
  | o :: l, now, pre, hn, ha, ho, h8 => by
    obtain ⟨hnm, hsz⟩ := ho o List.mem_cons_self
    rw [List.length_cons] at h8
    have e1 : pre ++ o :: l = pre ++ [o] ++ l := by simp
    have ha2 : ApartO (pre ++ [o]) := apartO_sub ha (by rw [e1]; exact List.sublist_append_left _ _)
    have hp := look_fresh ha2
    have hr : (snE o).right = true := right_iff.2 (.inr (.inr (.inr (.inl ⟨.inl rfl, rfl, rfl, rfl, hnm⟩))))
    have hd : doneM ⟨o.data, pre⟩ (snE o) = ⟨o.data, pre ++ [o]⟩ := by
      unfold doneM snE
      simp only [show ¬ ((5 : Int) = 1) by omega, show ¬ ((5 : Int) = 2 ∨ (5 : Int) = 3) by omega, show ¬ ((5 : Int) = 4) by omega, if_false, if_true]
    have h2 : LeadM ⟨o.data, pre⟩ [snE o] ⟨o.data, pre ++ [o]⟩ := by
      refine ⟨?_, ?_, ?_⟩
      · unfold checkM
        rw [if_neg (by rw [hr]; simp)]
        unfold snE
        simp only
        rw [if_neg (by omega), if_pos trivial, hp, if_neg (by simp), if_neg (by omega)]
      · rw [hd]; intro e
        have := congrArg (fun x : Sx => x.snaps.length) e
        simp at this
      · rw [hd]; rfl
    have h3 := snaps_lead l o.data (pre ++ [o]) hsz (by rw [← e1]; exact ha) (fun x hx => ho x (List.mem_cons_of_mem _ hx)) (by rw [List.length_append, List.length_singleton]; omega)
    have e3 : lastD o.data l = lastD now (o :: l) := by
      unfold lastD
      cases l with
      | nil => rfl
      | cons p l => rw [List.getLast?_cons_cons]; simp [List.getLast?_cons]
    rw [← e1, e3] at h3
    exact LeadM.app (LeadM.app (bytes_lead hn hsz) h2) h3
/-- The way leads there. -/
theorem way_lead {a b : Sx} (ha : StOk a) (hb : StOk b) : LeadM a (wayD a b) b := by
  have hk := preK_le a.snaps b.snaps
  have ht := preK_take a.snaps b.snaps
  unfold wayD
  generalize preK a.snaps b.snaps = k at *
  have ea : a = ⟨a.data, a.snaps.take k ++ a.snaps.drop k⟩ := by rw [List.take_append_drop]
  have eb : b.snaps = a.snaps.take k ++ b.snaps.drop k := by rw [ht, List.take_append_drop]
  have h1 := uns_lead a.data (a.snaps.take k) _ (a.snaps.drop k) rfl (by rw [List.take_append_drop]; exact ha.apart) (by rw [List.take_append_drop]; exact ha.names)
  rw [← ea] at h1
  have h2 := snaps_lead (b.snaps.drop k) a.data (a.snaps.take k) ha.size (by rw [← eb]; exact hb.apart) (fun o ho => ⟨hb.names o (List.mem_of_mem_drop ho), hb.sizes o (List.mem_of_mem_drop ho)⟩) (by have := hb.many; rw [List.length_take, List.length_drop]; omega)
  rw [← eb] at h2
  have hl : (lastD a.data (b.snaps.drop k)).length ≤ 512 := by
    unfold lastD
    cases hg : (b.snaps.drop k).getLast? with
    | none => exact ha.size
    | some o => exact hb.sizes o (List.mem_of_mem_drop (List.mem_of_getLast? hg))
  exact LeadM.app h1 (LeadM.app h2 (bytes_lead hl hb.size))
theorem way_same (a : Sx) : wayD a a = [] := by
  unfold wayD
  rw [preK_self, List.drop_length]
  simp [snapsD, lastD, bytes_same]
/-- There is no way just from one to itself. -/
theorem way_none {a b : Sx} (ha : StOk a) (hb : StOk b) : wayD a b = [] ↔ a = b := by
  constructor
  · intro h
    have := way_lead ha hb
    rw [h] at this
    exact this
  · intro h; subst h; exact way_same a
end Go.Proofs.Ytbpddcmehjgleaa
namespace Go.Proofs.Ytbpddcmehjgleaa
set_option linter.unusedVariables false
set_option linter.unnecessarySimpa false
set_option linter.unusedSimpArgs false

/-- Each event's bytes all are unlike what stands there; two side by side don't touch, where the first isn't full. -/
def LeastM (b : List UInt8) : List UInt8 → Int → Bool → List Ev → Prop
  | t, _, _, [] => t = b
  | t, en, full, e :: l => e.right = true ∧ (e.kind = 1 ∨ e.kind = 3) ∧ ∃ off n : Nat, spanA e = ((off : Int), (n : Int)) ∧ 1 ≤ n ∧ n ≤ 64 ∧ en ≤ (off : Int) ∧ off + n ≤ b.length ∧ ¬ ((off : Int) = en ∧ full = false) ∧
      (∀ k, k < n → t[off + k]? ≠ b[off + k]? ∧ (e.kind = 3 → b[off + k]? = some 0) ∧ (e.kind = 1 → e.data[k]? = b[off + k]?)) ∧ LeastM b (layB t off ((b.drop off).take n)) ((off + n : Nat) : Int) (decide (n = 64)) l
theorem pieces_least {s b : List UInt8} (hb : b.length ≤ 512) : ∀ (f i : Nat) (t : List UInt8) (en : Int) (full : Bool), MidD s b t i → b.length - i < f → en ≤ (i : Int) → (full = false → (i : Int) = en → i < b.length → s[i]? = b[i]?) → LeastM b t en full (piecesF s b f i)
  | 0, i, t, en, full, h, hf, _, _ => by omega
  | f + 1, i, t, en, full, h, hf, h1, h2 => by
    unfold piecesF
    split
    · rename_i hi
      split
      · rename_i h0
        have hs := runU_stop s b 64 i (by omega) (by omega)
        rw [h0, Nat.add_zero] at hs
        exact pieces_least hb f (i + 1) t en full (h.skip hs) (by omega) (by omega) (fun _ he => by omega)
      · rename_i h0
        have hle := runU_le s b 64 i
        have hen := runU_end s b 64 i (by omega)
        have hun := runU_unlike s b 64 i
        have hst := runU_stop s b 64 i
        generalize runU s b i 64 = n at *
        obtain ⟨p1, p2, p3⟩ := pieceD_right (b := b) (i := i) (n := n) (by omega) hle hen hb
        refine ⟨p1, p2, i, n, p3, by omega, hle, h1, hen, ?_, fun k hk => ⟨?_, ?_, ?_⟩, ?_⟩
        · rintro ⟨e1, e2⟩
          exact hun i (Nat.le_refl _) (by omega) (h2 e2 e1 hi)
        · rw [h.2.2 (i + k) (by omega)]
          exact hun (i + k) (by omega) (by omega)
        · intro hk3
          unfold pieceD at hk3
          split at hk3
          · rename_i hz
            have hz2 := List.all_eq_true.1 hz
            have hlt : i + k < b.length := by omega
            have : b[i + k] ∈ (b.drop i).take n := by
              rw [List.mem_iff_getElem?]
              exact ⟨k, by rw [List.getElem?_take, if_pos hk, List.getElem?_drop, List.getElem?_eq_getElem hlt]⟩
            have h9 := hz2 _ this
            rw [List.getElem?_eq_getElem hlt]
            simpa using h9
          · simp only at hk3; omega
        · intro hk1
          unfold pieceD at hk1 ⊢
          split at hk1
          · simp only at hk1; omega
          · rename_i hz
            rw [if_neg hz]
            simp only
            rw [List.getElem?_take, if_pos hk, List.getElem?_drop]
        · refine pieces_least hb f (i + n) _ _ _ (h.put hen) (by omega) (by omega) (fun hf2 _ hlt => ?_)
          have hn64 : n ≠ 64 := by simpa using hf2
          exact hst (by omega) (by omega)
    · rename_i hi
      exact h.all (by omega)
/-- What is done with the bytes behind the Resize. -/
theorem bytes_least {a b : List UInt8} (hb : b.length ≤ 512) : LeastM b (sizedL a b.length) (-1) false (piecesF (sizedL a b.length) b (b.length + 1) 0) :=
  pieces_least hb _ 0 _ _ _ ⟨sizedL_len _ _, fun j hj => by omega, fun j _ => rfl⟩ (by omega) (by omega) (fun _ h => by omega)
theorem bytesD_big {a b : List UInt8} (h : 512 < a.length ∨ 512 < b.length) : bytesD a b = [] := by unfold bytesD; rw [if_pos h]
theorem bytesD_as {a b : List UInt8} (h1 : ¬ 512 < a.length) (h2 : ¬ 512 < b.length) : bytesD a b = (if a.length = b.length then [] else [⟨4, 0, b.length, [], []⟩]) ++ piecesF (sizedL a b.length) b (b.length + 1) 0 := by unfold bytesD; rw [if_neg (by omega)]
end Go.Proofs.Ytbpddcmehjgleaa
