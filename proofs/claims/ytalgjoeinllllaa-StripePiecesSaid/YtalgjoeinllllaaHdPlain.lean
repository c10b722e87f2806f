/- Records of an image: which may be, their bytes, what is seen of them; no program in sight. -/
import Derived.Test.YtalgjoeinllllaaCrcBurst
import Derived.Test.YtalgjoeinllllaaEvPlain
import Derived.Test.YtalgjoeinllllaaCuPlain
namespace Go.Proofs.Ytalgjoeinllllaa
set_option linter.unusedVariables false
set_option linter.unnecessarySimpa false
set_option linter.unusedSimpArgs false

structure Mk where
  id : Int
  name : ByteArray
  size : Int
  gone : Bool
deriving DecidableEq
structure Hd where
  size : Int
  order : Int
  unit : Int
  count : Int
  next : Int
  seq : Int
  marks : List Mk
deriving DecidableEq
def noMk : Mk := ⟨0, ⟨#[]⟩, 0, false⟩
def noHd : Hd := ⟨0, 0, 0, 0, 0, 0, []⟩

/-! ### names -/
/-- A hold's name. -/
def heldL (s : List UInt8) : Bool := match s with | c :: _ => decide (c = 126) | [] => false
def markL (s : List UInt8) : Bool := nameOk (if heldL s then s.tail else s)
theorem heldL_nil : heldL [] = false := rfl
theorem nameOk_nil : nameOk [] = false := by decide
theorem markL_nil : markL [] = false := by decide
theorem markL_held {s : List UInt8} (h : heldL s = true) : markL s = nameOk s.tail := by unfold markL; rw [if_pos h]
theorem markL_free {s : List UInt8} (h : heldL s = false) : markL s = nameOk s := by unfold markL; rw [if_neg (by rw [h]; simp)]
theorem markL_len {s : List UInt8} (h : markL s = true) : 1 ≤ s.length ∧ s.length ≤ 13 := by
  unfold markL at h
  split at h
  · have := nameOk_len h
    rw [List.length_tail] at this; omega
  · have := nameOk_len h; omega

/-! ### marks -/
def Mk.nm (t : Mk) : List UInt8 := t.name.data.toList
def Mk.held (t : Mk) : Bool := heldL t.nm
def Mk.seen (t : Mk) : Bool := !t.gone && !t.held
def Mk.Fit (t : Mk) : Prop := markL t.nm = true ∧ ¬ (t.held = true ∧ t.gone = true) ∧ 0 ≤ t.size ∧ t.size ≤ 512
instance (t : Mk) : Decidable t.Fit := by unfold Mk.Fit; infer_instance
/-- The ID ahead of place j. -/
def lastM (l : List Mk) : Nat → Int
  | 0 => 0
  | j + 1 => match l[j]? with | some u => u.id | none => 0
theorem lastM_succ {l : List Mk} {j : Nat} {t : Mk} (h : l[j]? = some t) : lastM l (j + 1) = t.id := by show (match l[j]? with | some u => u.id | none => 0) = t.id; rw [h]
theorem lastM_zero (l : List Mk) : lastM l 0 = 0 := rfl
def okM (next : Int) (l : List Mk) (i : Nat) : Prop := ∀ t, l[i]? = some t → lastM l i < t.id ∧ t.id < next
def seenL (l : List Mk) : List Mk := l.filter Mk.seen
def holdsN (l : List Mk) : Nat := (l.filter Mk.held).length
/-- No two of one name. -/
def apartAt (l : List Mk) (i : Nat) : Prop := ∀ t, l[i]? = some t → ∀ j u, j < i → l[j]? = some u → u.name ≠ t.name
def Apart (l : List Mk) : Prop := ∀ i, i < l.length → apartAt l i
def ShapeOk (o u c : Int) : Prop := 3 ≤ o ∧ o ≤ 6 ∧ 2 ≤ u ∧ u ≤ o ∧ 1 ≤ c ∧ c ≤ 4
instance (o u c : Int) : Decidable (ShapeOk o u c) := by unfold ShapeOk; infer_instance
/-- The numbers of a record. -/
def NumsOk (h : Hd) : Prop := 0 ≤ h.size ∧ h.size ≤ 512 ∧ ShapeOk h.order h.unit h.count ∧ 1 ≤ h.next ∧ h.next ≤ 1073741824 ∧ 0 ≤ h.seq ∧ h.seq ≤ 1099511627776
instance (h : Hd) : Decidable (NumsOk h) := by unfold NumsOk; infer_instance
def MarksOk (next : Int) (l : List Mk) : Prop := l.length ≤ 17 ∧ (∀ i, i < l.length → okM next l i) ∧ holdsN l ≤ 1 ∧ (∀ t ∈ l, t.Fit) ∧ (seenL l).length ≤ 8 ∧ Apart (seenL l)
def HdOk (h : Hd) : Prop := NumsOk h ∧ MarksOk h.next h.marks
noncomputable def rightH (h : Hd) : Bool := open Classical in if HdOk h then true else false
theorem rightH_iff {h : Hd} : rightH h = true ↔ HdOk h := by unfold rightH; split <;> simp_all
theorem rightH_no {h : Hd} (k : ¬ HdOk h) : rightH h = false := by unfold rightH; rw [if_neg k]
theorem holdsN_snoc {l : List Mk} {j : Nat} {t : Mk} (ht : l[j]? = some t) : holdsN (l.take (j + 1)) = holdsN (l.take j) + (if t.held then 1 else 0) := by
  obtain ⟨h, rfl⟩ := List.getElem?_eq_some_iff.1 ht
  unfold holdsN
  rw [List.take_succ_eq_append_getElem h, List.filter_append, List.length_append]
  cases hh : (l[j]).held <;> simp [hh]
theorem holdsN_le (l : List Mk) : holdsN l ≤ l.length := List.length_filter_le _ _
theorem seenL_snoc {l : List Mk} {j : Nat} {t : Mk} (ht : l[j]? = some t) : seenL (l.take (j + 1)) = seenL (l.take j) ++ (if t.seen then [t] else []) := by
  obtain ⟨h, rfl⟩ := List.getElem?_eq_some_iff.1 ht
  unfold seenL
  rw [List.take_succ_eq_append_getElem h, List.filter_append]
  cases hh : (l[j]).seen <;> simp [hh]
theorem seenL_le (l : List Mk) : (seenL l).length ≤ l.length := List.length_filter_le _ _
theorem seenL_mem {l : List Mk} {t : Mk} (h : t ∈ seenL l) : t ∈ l ∧ t.seen = true := List.mem_filter.1 h
theorem lastM_ge {next : Int} {l : List Mk} {j : Nat} (hj : j ≤ l.length) (h : ∀ m, m < j → okM next l m) : 0 ≤ lastM l j := by
  induction j with
  | zero => simp [lastM_zero]
  | succ j ih =>
    have ht : l[j]? = some l[j] := List.getElem?_eq_getElem (by omega)
    rw [lastM_succ ht]
    have := (h j (by omega) _ ht).1
    have := ih (by omega) fun m hm => h m (by omega)
    omega

/-! ### their bytes -/
def mkL (t : Mk) : List UInt8 := varL t.id.toNat ++ (varL t.size.toNat ++ (varL (bitN t.gone) ++ textL t.nm))
def rowM (l : List Mk) : List UInt8 := l.flatMap mkL
def numsH (h : Hd) : List UInt8 := varL h.size.toNat ++ (varL h.order.toNat ++ (varL h.unit.toNat ++ (varL h.count.toNat ++ (varL h.next.toNat ++ varL h.seq.toNat))))
def marksL (l : List Mk) : List UInt8 := varL l.length ++ rowM l
def bodyH (h : Hd) : List UInt8 := numsH h ++ marksL h.marks
noncomputable def putHd (h : Hd) : List UInt8 × Int := if rightH h then (sealL (bodyH h), 0) else ([], 1)
theorem putHd_yes {h : Hd} (k : rightH h = true) : putHd h = (sealL (bodyH h), 0) := by unfold putHd; rw [if_pos k]
theorem putHd_no {h : Hd} (k : rightH h = false) : putHd h = ([], 1) := by unfold putHd; rw [if_neg (by rw [k]; simp)]
theorem rowM_snoc {l : List Mk} {j : Nat} {t : Mk} (ht : l[j]? = some t) : rowM (l.take (j + 1)) = rowM (l.take j) ++ mkL t := by
  obtain ⟨h, rfl⟩ := List.getElem?_eq_some_iff.1 ht
  unfold rowM
  rw [List.take_succ_eq_append_getElem h, List.flatMap_append]
  simp
theorem rowM_drop {l : List Mk} {j : Nat} {t : Mk} (ht : l[j]? = some t) : rowM (l.drop j) = mkL t ++ rowM (l.drop (j + 1)) := by
  obtain ⟨h, rfl⟩ := List.getElem?_eq_some_iff.1 ht
  unfold rowM
  rw [List.drop_eq_getElem_cons h, List.flatMap_cons]
theorem rowM_split (l : List Mk) (j : Nat) : rowM l = rowM (l.take j) ++ rowM (l.drop j) := by
  unfold rowM
  rw [← List.flatMap_append, List.take_append_drop]
/-- What is laid when j marks are, ahead of it B. -/
def headM (B : List UInt8) (l : List Mk) (j : Nat) : List UInt8 := (B ++ varL l.length) ++ rowM (l.take j)
theorem headM_zero (B : List UInt8) (l : List Mk) : headM B l 0 = B ++ varL l.length := by unfold headM; simp [rowM]
theorem headM_all {B : List UInt8} {l : List Mk} {n : Nat} (h : l.length = n) : headM B l n = B ++ marksL l := by unfold headM marksL; rw [← h, List.take_length, List.append_assoc]
theorem headM_succ {B : List UInt8} {l : List Mk} {j : Nat} {t : Mk} (ht : l[j]? = some t) : headM B l (j + 1) = headM B l j ++ mkL t := by
  unfold headM; rw [rowM_snoc ht]; simp only [List.append_assoc]
def endM (B : List UInt8) (l : List Mk) (j : Nat) : Nat := (headM B l j).length
theorem endM_drop (B : List UInt8) (l : List Mk) (j : Nat) : (B ++ marksL l).drop (endM B l j) = rowM (l.drop j) := by
  have e : B ++ marksL l = headM B l j ++ rowM (l.drop j) := by unfold headM marksL; rw [rowM_split l j]; simp only [List.append_assoc]
  unfold endM
  rw [e, List.drop_left]
theorem endM_zero (B : List UInt8) (l : List Mk) : endM B l 0 = B.length + (varL l.length).length := by unfold endM; rw [headM_zero, List.length_append]
theorem endM_succ {B : List UInt8} {l : List Mk} {j : Nat} {t : Mk} (ht : l[j]? = some t) : endM B l (j + 1) = endM B l j + (mkL t).length := by
  unfold endM; rw [headM_succ ht, List.length_append]
theorem endM_le (B : List UInt8) (l : List Mk) (j : Nat) : endM B l j ≤ (B ++ marksL l).length := by
  unfold endM headM marksL
  rw [rowM_split l j]
  simp only [List.length_append]; omega

/-! ### unlike records have unlike bytes -/
/-- A mark whose numbers are none below 0 and few enough. -/
def Mk.In (t : Mk) : Prop := 0 ≤ t.id ∧ t.id < 9223372036854775808 ∧ 0 ≤ t.size ∧ t.size < 9223372036854775808 ∧ t.nm.length < 9223372036854775808
theorem textL_apart {s u x y : List UInt8} (hs : s.length < 9223372036854775808) (hu : u.length < 9223372036854775808) (h : textL s ++ x = textL u ++ y) : s = u ∧ x = y := by
  unfold textL at h
  rw [List.append_assoc, List.append_assoc] at h
  obtain ⟨e, h⟩ := varL_apartU hs hu h
  exact List.append_inj h e
theorem bytes_ext {a b : ByteArray} (h : a.data.toList = b.data.toList) : a = b := by
  obtain ⟨⟨a⟩⟩ := a
  obtain ⟨⟨b⟩⟩ := b
  simp only at h
  rw [h]
theorem mkL_apart {t u : Mk} {x y : List UInt8} (ht : t.In) (hu : u.In) (h : mkL t ++ x = mkL u ++ y) : t = u ∧ x = y := by
  obtain ⟨a, b, c, d⟩ := t
  obtain ⟨a', b', c', d'⟩ := u
  unfold Mk.In Mk.nm at ht hu
  simp only at ht hu
  unfold mkL Mk.nm at h
  simp only [List.append_assoc] at h
  obtain ⟨e1, h⟩ := varL_apartU (by omega) (by omega) h
  obtain ⟨e2, h⟩ := varL_apartU (by omega) (by omega) h
  obtain ⟨e3, h⟩ := varL_apartU (bitN_lt _) (bitN_lt _) h
  obtain ⟨e4, h⟩ := textL_apart ht.2.2.2.2 hu.2.2.2.2 h
  refine ⟨?_, h⟩
  rw [show a = a' by omega, show c = c' by omega, bitN_inj e3, bytes_ext e4]
theorem rowM_inj : ∀ {a b : List Mk} {x y : List UInt8}, a.length = b.length → (∀ t ∈ a, t.In) → (∀ t ∈ b, t.In) → rowM a ++ x = rowM b ++ y → a = b ∧ x = y
  | [], [], x, y, _, _, _, h => ⟨rfl, by simpa [rowM] using h⟩
  | t :: a, u :: b, x, y, hl, ha, hb, h => by
    unfold rowM at h
    rw [List.flatMap_cons, List.flatMap_cons, List.append_assoc, List.append_assoc] at h
    obtain ⟨rfl, h2⟩ := mkL_apart (ha t List.mem_cons_self) (hb u List.mem_cons_self) h
    obtain ⟨rfl, h3⟩ := rowM_inj (a := a) (b := b) (by simpa using hl) (fun t ht => ha t (List.mem_cons_of_mem _ ht)) (fun t ht => hb t (List.mem_cons_of_mem _ ht)) h2
    exact ⟨rfl, h3⟩
theorem marksL_inj {a b : List Mk} {x y : List UInt8} (hla : a.length < 9223372036854775808) (hlb : b.length < 9223372036854775808) (ha : ∀ t ∈ a, t.In) (hb : ∀ t ∈ b, t.In) (h : marksL a ++ x = marksL b ++ y) : a = b ∧ x = y := by
  unfold marksL at h
  rw [List.append_assoc, List.append_assoc] at h
  obtain ⟨e, h⟩ := varL_apartU hla hlb h
  exact rowM_inj e ha hb h
theorem MarksOk.in {n : Int} {l : List Mk} (h : MarksOk n l) (hn : n ≤ 1073741824) : ∀ t ∈ l, t.In := fun t ht => by
  obtain ⟨i, hi⟩ := List.mem_iff_getElem?.1 ht
  have hil := (List.getElem?_eq_some_iff.1 hi).1
  have h1 := h.2.1 i hil t hi
  have h2 := lastM_ge (next := n) (l := l) (j := i) (by omega) fun m hm => h.2.1 m (by omega)
  have h3 := h.2.2.2.1 t ht
  unfold Mk.Fit at h3
  have h4 := markL_len h3.1
  unfold Mk.In
  omega
theorem MarksOk.id {n : Int} {l : List Mk} (h : MarksOk n l) {i : Nat} {t : Mk} (hi : l[i]? = some t) : 1 ≤ t.id ∧ t.id < n := by
  have hil := (List.getElem?_eq_some_iff.1 hi).1
  have h1 := h.2.1 i hil t hi
  have h2 := lastM_ge (next := n) (l := l) (j := i) (by omega) fun m hm => h.2.1 m (by omega)
  omega
theorem bodyH_inj {a b : Hd} {x y : List UInt8} (ha : HdOk a) (hb : HdOk b) (h : bodyH a ++ x = bodyH b ++ y) : a = b ∧ x = y := by
  obtain ⟨ha1, ha2⟩ := ha
  obtain ⟨hb1, hb2⟩ := hb
  obtain ⟨s, o, u, c, n, q, l⟩ := a
  obtain ⟨s', o', u', c', n', q', l'⟩ := b
  unfold NumsOk ShapeOk at ha1 hb1
  simp only at ha1 hb1 ha2 hb2
  unfold bodyH numsH at h
  simp only [List.append_assoc] at h
  obtain ⟨e1, h⟩ := varL_apartU (by omega) (by omega) h
  obtain ⟨e2, h⟩ := varL_apartU (by omega) (by omega) h
  obtain ⟨e3, h⟩ := varL_apartU (by omega) (by omega) h
  obtain ⟨e4, h⟩ := varL_apartU (by omega) (by omega) h
  obtain ⟨e5, h⟩ := varL_apartU (by omega) (by omega) h
  obtain ⟨e6, h⟩ := varL_apartU (by omega) (by omega) h
  obtain ⟨e7, h⟩ := marksL_inj (by have := ha2.1; omega) (by have := hb2.1; omega) (ha2.in (by omega)) (hb2.in (by omega)) h
  refine ⟨?_, h⟩
  rw [show s = s' by omega, show o = o' by omega, show u = u' by omega, show c = c' by omega, show n = n' by omega, show q = q' by omega, e7]
theorem mkL_len {t : Mk} (h1 : t.id < 1073741824) (h2 : t.Fit) : (mkL t).length ≤ 22 := by
  unfold Mk.Fit at h2
  have a1 := varL_bytesU (n := t.id.toNat) (k := 5) (by omega) (by omega)
  have a2 := varL_bytesU (n := t.size.toNat) (k := 2) (by omega) (by omega)
  have a3 := varL_bytesU (n := bitN t.gone) (k := 1) (by omega) (by cases t.gone <;> simp [bitN])
  have a4 := markL_len h2.1
  have a5 := varL_bytesU (n := t.nm.length) (k := 1) (by omega) (by omega)
  unfold mkL textL
  simp only [List.length_append]
  omega
theorem rowM_len : ∀ (l : List Mk), (∀ t ∈ l, t.id < 1073741824 ∧ t.Fit) → (rowM l).length ≤ 22 * l.length
  | [], _ => by simp [rowM]
  | t :: l, h => by
    have h0 := h t List.mem_cons_self
    have h1 := mkL_len h0.1 h0.2
    have h2 := rowM_len l fun u hu => h u (List.mem_cons_of_mem _ hu)
    unfold rowM at *
    rw [List.flatMap_cons, List.length_append, List.length_cons]
    omega
theorem marksL_len {n : Int} {l : List Mk} (h : MarksOk n l) (hn : n ≤ 1073741824) : (marksL l).length ≤ 375 := by
  have h1 := rowM_len l fun t ht => by
    obtain ⟨i, hi⟩ := List.mem_iff_getElem?.1 ht
    exact ⟨by have := h.id hi; omega, h.2.2.2.1 t ht⟩
  have h2 := varL_bytesU (n := l.length) (k := 1) (by omega) (by have := h.1; omega)
  have h3 := h.1
  unfold marksL
  rw [List.length_append]; omega
theorem numsH_len {h : Hd} (k : NumsOk h) : (numsH h).length ≤ 16 := by
  unfold NumsOk ShapeOk at k
  have h1 := varL_bytesU (n := h.size.toNat) (k := 2) (by omega) (by omega)
  have h2 := varL_bytesU (n := h.order.toNat) (k := 1) (by omega) (by omega)
  have h3 := varL_bytesU (n := h.unit.toNat) (k := 1) (by omega) (by omega)
  have h4 := varL_bytesU (n := h.count.toNat) (k := 1) (by omega) (by omega)
  have h5 := varL_bytesU (n := h.next.toNat) (k := 5) (by omega) (by omega)
  have h6 := varL_bytesU (n := h.seq.toNat) (k := 6) (by omega) (by omega)
  unfold numsH
  simp only [List.length_append]; omega
theorem bodyH_len {h : Hd} (k : HdOk h) : (bodyH h).length ≤ 391 := by
  have h1 := numsH_len k.1
  have h2 := marksL_len k.2 (by have := k.1; unfold NumsOk at this; omega)
  unfold bodyH
  rw [List.length_append]; omega
theorem headM_len {B : List UInt8} {n : Int} {l : List Mk} (h : MarksOk n l) (hn : n ≤ 1073741824) (hB : B.length ≤ 16) (j : Nat) : (headM B l j).length ≤ 391 := by
  have h1 := endM_le B l j
  have h2 := marksL_len h hn
  unfold endM at h1
  rw [List.length_append] at h1; omega

/-! ### what is sealed -/
theorem putL_cons (n k : Nat) : putL n (k + 1) = UInt8.ofNat n :: putL (n / 256) k := by
  unfold putL
  rw [List.range_succ_eq_map, List.map_cons, List.map_map]
  congr 1
  · simp
  · refine List.map_congr_left fun i _ => ?_
    simp only [Function.comp]
    rw [Nat.pow_succ, Nat.mul_comm, Nat.div_div_eq_div_mul]
theorem putL_getL : ∀ l : List UInt8, putL (getL l) l.length = l
  | [] => rfl
  | c :: l => by
    have hc := c.toNat_lt
    rw [List.length_cons, putL_cons]
    have e : getL (c :: l) = c.toNat + 256 * getL l := rfl
    rw [e]
    congr 1
    · rw [← UInt8.toNat_inj, UInt8.toNat_ofNat']; omega
    · rw [show (c.toNat + 256 * getL l) / 256 = getL l by omega]; exact putL_getL l
theorem open_is {b p : List UInt8} (h : openL b = some p) : b = sealL p := by
  unfold openL at h
  split at h
  · rename_i hh
    simp only [Option.some.injEq] at h
    subst h
    unfold sealL
    rw [← hh.2]
    have e := putL_getL (b.drop (b.length - 4))
    rw [List.length_drop, show b.length - (b.length - 4) = 4 by omega] at e
    rw [e, List.take_append_drop]
  · cases h
theorem seal_inj {a b : List UInt8} (h : sealL a = sealL b) : a = b := by
  have h1 := open_seal a
  rw [h, open_seal b] at h1
  exact (Option.some.inj h1).symm

/-! ### what bytes are -/
noncomputable def getHd (b : List UInt8) : Hd × Int := open Classical in match openL b with
  | none => (noHd, 13)
  | some p => if h : ∃ d : Hd, HdOk d ∧ bodyH d = p then (Classical.choose h, 0) else (noHd, 2)
theorem getHd_sum {b : List UInt8} (h : openL b = none) : getHd b = (noHd, 13) := by unfold getHd; rw [h]
theorem getHd_some {d : Hd} {b p : List UInt8} (ho : openL b = some p) (h : HdOk d) (hb : bodyH d = p) : getHd b = (d, 0) := by
  have hx : ∃ d : Hd, HdOk d ∧ bodyH d = p := ⟨d, h, hb⟩
  unfold getHd
  rw [ho]
  simp only
  rw [dif_pos hx]
  have := Classical.choose_spec hx
  have e : bodyH (Classical.choose hx) ++ [] = bodyH d ++ [] := by rw [this.2, hb]
  rw [(bodyH_inj this.1 h e).1]
theorem getHd_none {b p : List UInt8} (ho : openL b = some p) (h : ∀ d : Hd, HdOk d → bodyH d ≠ p) : getHd b = (noHd, 2) := by
  unfold getHd
  rw [ho]
  simp only
  rw [dif_neg (fun ⟨l, h1, h2⟩ => h l h1 h2)]
/-- What a guess must be. -/
def GuessH (p : List UInt8) (g : Hd) : Prop := ∀ d : Hd, HdOk d → bodyH d = p → g = d
theorem guessH_yes {b p : List UInt8} {g : Hd} (ho : openL b = some p) (h2 : rightH g = true) (h3 : sealL (bodyH g) = b) : getHd b = (g, 0) := by
  refine getHd_some ho (rightH_iff.1 h2) ?_
  rw [open_is ho] at h3
  exact seal_inj h3
theorem guessH_not {b p : List UInt8} {g : Hd} (ho : openL b = some p) (h : GuessH p g) (h2 : rightH g = false ∨ sealL (bodyH g) ≠ b) : getHd b = (noHd, 2) := getHd_none ho fun d hd hb => by
  have := h d hd hb
  subst this
  rcases h2 with h2 | h2
  · rw [rightH_iff.2 hd] at h2; cases h2
  · exact h2 (by rw [hb, open_is ho])

/-! ### what a guest sees -/
def findM (l : List Mk) (s : ByteArray) : Option Mk := l.find? fun t => t.seen && decide (t.name = s)
def foundM (l : List Mk) (s : ByteArray) : Mk × Bool := match findM l s with | some t => (t, true) | none => (noMk, false)
def newestM (l : List Mk) : Int := match l with | [] => 0 | t :: r => (t :: r).foldl (fun m u => max m u.id) t.id
end Go.Proofs.Ytalgjoeinllllaa
