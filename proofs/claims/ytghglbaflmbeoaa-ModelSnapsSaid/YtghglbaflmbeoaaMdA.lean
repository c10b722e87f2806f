/- Images: states as values; the document's own New, Find, Sized. -/
import Derived.Test.YtghglbaflmbeoaaQRow
import Derived.Test.YtghglbaflmbeoaaMdPlain
import Derived.Test.YtghglbaflmbeoaaEvQ
import Derived.Test.YtghglbaflmbeoaaEvP
import Derived.Test.YtghglbaflmbeoaaSlB
import Derived.Test.YtghglbaflmbeoaaGz
import Derived.Test.YtghglbaflmbeoaaHeld
import Derived.Test.YtghglbaflmbeoaaRec
import Derived.Deep.DeepCutAuto
import Derived.Deep.RegionWith
namespace Go.Proofs.Ytghglbaflmbeoaa
open Go.RowKit Go.Proofs
set_option linter.unusedVariables false
set_option linter.unusedSimpArgs false
set_option linter.unnecessarySimpa false

/-! ### snapshots, events, states as cells -/
def OdR : Rel Od := fun J w cs o => ∃ S v, cs = [.string S, v] ∧ S.data.toList = o.name ∧ S.size ≤ 9223372036854775807 ∧ BQ J w v o.data
theorem od_rel : RelOk OdR where
  keep := fun {J w w' cs t} h hb hs => by
    obtain ⟨S, v, h1, h2, h3, h4⟩ := h
    exact ⟨S, v, h1, h2, h3, h4.keep hb hs⟩
  weak := fun {J J' w cs t} h hj => by
    obtain ⟨S, v, h1, h2, h3, h4⟩ := h
    exact ⟨S, v, h1, h2, h3, h4.weak hj⟩
def EvL : Rel Ev := fun J w cs e => ∃ v S, cs = [.int .i64 e.kind, .int .i64 e.off, .int .i64 e.len, v, .string S] ∧ S.data.toList = e.name ∧ S.size ≤ 9223372036854775807 ∧ BQ J w v e.data
theorem ev_rel : RelOk EvL where
  keep := fun {J w w' cs t} h hb hs => by
    obtain ⟨S, v, h1, h2, h3, h4⟩ := h
    exact ⟨S, v, h1, h2, h3, h4.keep hb hs⟩
  weak := fun {J J' w cs t} h hj => by
    obtain ⟨S, v, h1, h2, h3, h4⟩ := h
    exact ⟨S, v, h1, h2, h3, h4.weak hj⟩
theorem info_od : (Try.prog.info? 48).map (fun i => (i.zero, i.size, i.bytes)) = some (some (.agg #[.string ⟨#[]⟩, .slice none 0 0]), 2, 40) := by kernel_rfl
theorem odT_ok : (rawT 2 48 26).Ok := rawT_ok (by decide) Try.underlying26 info_od (by decide) rfl
theorem info_evt : (Try.prog.info? 33).map (fun i => (i.zero, i.size, i.bytes)) = some (some (.agg #[.int .i64 0, .int .i64 0, .int .i64 0, .slice none 0 0, .string ⟨#[]⟩]), 5, 64) := by kernel_rfl
theorem evT_ok : (rawT 5 33 22).Ok := rawT_ok (by decide) Try.underlying22 info_evt (by decide) rfl
abbrev QO (J : Nat → Prop) (w : World) (v : Value) (l : List Od) : Prop := QRow J 2 48 26 OdR w v l
abbrev OO (J : Nat → Prop) (W0 w : World) (v : Value) (l : List Od) : Prop := NOwn J 2 48 26 OdR W0 w v l
abbrev QE (J : Nat → Prop) (w : World) (v : Value) (l : List Ev) : Prop := QRow J 5 33 22 EvL w v l
abbrev OEv (J : Nat → Prop) (W0 w : World) (v : Value) (l : List Ev) : Prop := NOwn J 5 33 22 EvL W0 w v l
structure StA (J : Nat → Prop) (w : World) (d v : Value) (s : Sx) : Prop where
  data : BQ J w d s.data
  snaps : QO J w v s.snaps
theorem StA.later {J : Nat → Prop} {w w' : World} {d v : Value} {s : Sx} (h : StA J w d v s) (hb : Below w.heap.size w w') : StA J w' d v s := ⟨h.data.later hb, h.snaps.later od_rel hb⟩
theorem StA.keep {J : Nat → Prop} {w w' : World} {d v : Value} {s : Sx} (h : StA J w d v s) (hb : ∀ b, b < w.heap.size → J b → w'.heap[b]? = w.heap[b]?) (hs : w.heap.size ≤ w'.heap.size) : StA J w' d v s := ⟨h.data.keep hb hs, h.snaps.keep od_rel hb hs⟩
theorem StA.weak {J J' : Nat → Prop} {w : World} {d v : Value} {s : Sx} (h : StA J w d v s) (hj : ∀ b, b < w.heap.size → J b → J' b) : StA J' w d v s := ⟨h.data.weak hj, h.snaps.weak od_rel hj⟩
theorem StA.open {J : Nat → Prop} {w : World} {d v : Value} {s : Sx} (h : StA J w d v s) : ∃ a1 c1 a2 c2, d = .slice a1 s.data.length c1 ∧ v = .slice a2 s.snaps.length c2 ∧ Row w a1 c1 s.data ∧ QO J w (.slice a2 s.snaps.length c2) s.snaps := by
  obtain ⟨a1, c1, h1, h2⟩ := h.data.row_n rfl
  obtain ⟨a2, c2, h3, _⟩ := h.snaps.val rfl
  exact ⟨a1, c1, a2, c2, h1, h3, h2, h3 ▸ h.snaps⟩
/-- A snapshot's cells. -/
theorem QRow.o2 {J : Nat → Prop} {w : World} {a : Option Addr} {n cap : Nat} {l : List Od} (h : QO J w (.slice a n cap) l) {i : Nat} {o : Od} (ho : l[i]? = some o) :
    ∃ b off S a2 c2, a = some ⟨b, off, .none⟩ ∧ w.cell? ⟨b, off + i * 2, .none⟩ = some (.string S) ∧ w.cell? ⟨b, off + i * 2 + 1, .none⟩ = some (.slice a2 o.data.length c2) ∧ S.data.toList = o.name ∧ S.size ≤ 9223372036854775807 ∧ Row w a2 c2 o.data := by
  obtain ⟨b, off, cs, ha, hl, ⟨S, v, rfl, h2, h3, h4⟩, hc⟩ := h.at ho
  obtain ⟨a2, c2, rfl, hr⟩ := h4.row_n rfl
  exact ⟨b, off, S, a2, c2, ha, hc 0 _ rfl, hc 1 _ rfl, h2, h3, hr⟩
theorem two_recsS (w : World) (cs ds : Array Value) (t u : TypeId) : RecAt ((w.alloc (.cells cs t)).alloc (.cells ds u)) w.heap.size cs t ∧ RecAt ((w.alloc (.cells cs t)).alloc (.cells ds u)) (w.heap.size + 1) ds u ∧ Below w.heap.size w ((w.alloc (.cells cs t)).alloc (.cells ds u)) := by
  have h1 := RecAt.new w cs t
  have h2 := RecAt.new (w.alloc (.cells cs t)) ds u
  rw [show (w.alloc (.cells cs t)).heap.size = w.heap.size + 1 by simp] at h2
  have b1 : Below w.heap.size w (w.alloc (.cells cs t)) := (Below.refl _ _).alloc (Nat.le_refl _) _
  have b2 : Below (w.alloc (.cells cs t)).heap.size (w.alloc (.cells cs t)) ((w.alloc (.cells cs t)).alloc (.cells ds u)) := (Below.refl _ _).alloc (Nat.le_refl _) _
  exact ⟨h1.later b2, h2, b1.trans (b2.mono b1.size)⟩
theorem three_recsS (w : World) (cs ds es : Array Value) (t u v : TypeId) : RecAt (((w.alloc (.cells cs t)).alloc (.cells ds u)).alloc (.cells es v)) w.heap.size cs t ∧ RecAt (((w.alloc (.cells cs t)).alloc (.cells ds u)).alloc (.cells es v)) (w.heap.size + 1) ds u ∧ RecAt (((w.alloc (.cells cs t)).alloc (.cells ds u)).alloc (.cells es v)) (w.heap.size + 2) es v ∧ Below w.heap.size w (((w.alloc (.cells cs t)).alloc (.cells ds u)).alloc (.cells es v)) := by
  obtain ⟨h1, h2, h3⟩ := two_recsS w cs ds t u
  have h4 := RecAt.new ((w.alloc (.cells cs t)).alloc (.cells ds u)) es v
  rw [show ((w.alloc (.cells cs t)).alloc (.cells ds u)).heap.size = w.heap.size + 2 by simp] at h4
  have b : Below ((w.alloc (.cells cs t)).alloc (.cells ds u)).heap.size ((w.alloc (.cells cs t)).alloc (.cells ds u)) (((w.alloc (.cells cs t)).alloc (.cells ds u)).alloc (.cells es v)) := (Below.refl _ _).alloc (Nat.le_refl _) _
  exact ⟨h1.later b, h2.later b, h4, h3.trans (b.mono h3.size)⟩
/-- A snapshot's place, -1 where there is none. -/
def findO (l : List Od) (n : List UInt8) : Int := match placeO l n with | some k => (k : Int) | none => -1
theorem findO_none {l : List Od} {n : List UInt8} (h : ∀ o ∈ l, o.name ≠ n) : findO l n = -1 := by
  have : placeO l n = none := by
    unfold placeO; rw [List.findIdx?_eq_none_iff]; intro o ho; simpa using h o ho
  unfold findO; rw [this]
theorem findO_some {l : List Od} {n : List UInt8} {j : Nat} {o : Od} (h : l[j]? = some o) (hn : o.name = n) (hf : ∀ k, k < j → ∀ p, l[k]? = some p → p.name ≠ n) : findO l n = (j : Int) := by
  have : placeO l n = some j := by
    unfold placeO
    rw [List.findIdx?_eq_some_iff_getElem]
    obtain ⟨hj, rfl⟩ := List.getElem?_eq_some_iff.1 h
    exact ⟨hj, by simpa using hn, fun k hk => by have := hf k hk l[k] (List.getElem?_eq_getElem (by omega)); simpa using this⟩
  unfold findO; rw [this]
theorem findO_range (l : List Od) (n : List UInt8) : -1 ≤ findO l n ∧ findO l n < l.length := by
  unfold findO
  cases h : placeO l n with
  | none => simp only; omega
  | some k =>
    obtain ⟨o, ho, _⟩ := placeO_look h
    have := (List.getElem?_eq_some_iff.1 ho).1
    simp only; omega
theorem findO_isSome {l : List Od} {n : List UInt8} : (placeO l n).isSome = decide (0 ≤ findO l n) := by
  unfold findO
  cases h : placeO l n with
  | none => simp
  | some k => simp
theorem str_iff {S T : ByteArray} {l m : List UInt8} (h1 : S.data.toList = l) (h2 : T.data.toList = m) : (S = T) ↔ l = m := by
  subst h1 h2
  constructor
  · rintro rfl; rfl
  · intro h
    cases S; cases T
    simp only at h
    congr 1
    exact Array.toList_inj.1 h
set_option maxRecDepth 20000 in
set_option maxHeartbeats 3200000 in
theorem rfind14_any (d : Value) (a : Option Addr) (n cap : Nat) (l : List Od) (T : ByteArray) (J : Nat → Prop) (w : World) (hd1 : d.oneCell' = true) (h : QO J w (.slice a n cap) l) (hT : T.size ≤ 9223372036854775807) :
    Calls Try.prog 34 #[.agg #[d, .slice a n cap], .string T] w fun e w' => e = .returned (.int .i64 (findO l T.data.toList)) ∧ Below w.heap.size w w' := by
  obtain ⟨hn, hcap, hcm, ha⟩ := h.cap
  unfold maxLen at hcm
  have HB0 := Lib.hid ((Below.refl w.heap.size w).alloc (Nat.le_refl _) (.cells #[d, .slice a n cap] 28))
  have HX0 := Lib.hid (RecAt.new w #[d, .slice a n cap] 28)
  have HR := Lib.hid (h.later od_rel HB0.out)
  have HN := Lib.hid hn
  obtain ⟨w1, hw1⟩ : ∃ W, w.alloc (.cells #[d, .slice a n cap] 28) = W := ⟨_, rfl⟩
  rw [hw1] at HX0 HB0 HR
  clear h hn
  go_enter Try.func34, Try.ntmps34
  go_upto_region 1 with fail
  try rw [hw1]
  clear hw1
  obtain ⟨X, hX⟩ : ∃ X, w.heap.size = X := ⟨_, rfl⟩
  rw [hX] at HX0 ⊢
  have HXS := Lib.hid hX
  clear hX
  go_wp2_with fail
  go_loopw [5] (fun i wr => ∃ j : Nat, i = .int .i64 j ∧ j ≤ n ∧ wr = w1 ∧ Hid (∀ k, k < j → ∀ p, l[k]? = some p → p.name ≠ T.data.toList)) (fun i _ => n - (intOf i).toNat)
  case atStart => exact ⟨0, rfl, by omega, rfl, Lib.hid (fun k h => by omega)⟩
  case round =>
    obtain ⟨j, rfl, hj, rfl, HA⟩ := hrel
    obtain ⟨x0, x1⟩ := HX0.out.c2
    by_cases hjn : (j : Int) < n
    · obtain ⟨o, ho⟩ : ∃ e, l[j]? = some e := ⟨l[j]'(by have := HN.out; omega), List.getElem?_eq_getElem _⟩
      obtain ⟨b, off, S, a2, c2, rfl, p0, p1, hS, hS2, _⟩ := HR.out.o2 ho
      have HO := Lib.hid ho
      have HSI := Lib.hid (str_iff hS (rfl : T.data.toList = _))
      clear ho hS hS2
      by_cases he : o.name = T.data.toList
      · have hq : (S.toList == T.toList) = true := (sbeq_iff _ _).2 (HSI.out.2 he)
        have HF := Lib.hid (findO_some HO.out he HA.out)
        clear he
        go_wp2_with fail
        go_ret
        exact ⟨ret_int HF.out.symm, HB0.out⟩
      · have hq : (S.toList == T.toList) = false := sbeq_no fun h => he (HSI.out.1 h)
        have HA2 : Hid (∀ k, k < j + 1 → ∀ p, l[k]? = some p → p.name ≠ T.data.toList) := Lib.hid fun k hk p hp => by
          by_cases c : k = j
          · subst c; rw [HO.out] at hp; cases hp; exact he
          · exact HA.out k (by omega) p hp
        clear he
        go_wp2_with fail
        go_roundw
        case rel => exact ⟨j + 1, by go_num, by omega, trivial, HA2⟩
        case measure => simp [intOf]; omega
    · have hjN : j = n := by omega
      have HF := Lib.hid (findO_none (l := l) (n := T.data.toList) (fun o ho => by
        obtain ⟨i, hi⟩ := List.mem_iff_getElem?.1 ho
        have hi2 := (List.getElem?_eq_some_iff.1 hi).1
        exact HA.out i (by rw [HN.out] at hi2; omega) o hi))
      clear hjN
      go_wp2_with fail
      go_ret
      exact ⟨ret_int HF.out.symm, HB0.out⟩

/-! ### another length -/
def lenV (v : Value) : Nat := match v with | .slice _ n _ => n | _ => 0
theorem sizedL_step {b : List UInt8} {n k : Nat} (h : k < n - b.length) : b.take n ++ List.replicate (k + 1) (0 : UInt8) = (b.take n ++ List.replicate k 0) ++ [0] := by
  rw [List.replicate_succ', List.append_assoc]
set_option maxRecDepth 20000 in
set_option maxHeartbeats 3200000 in
theorem rsized_any (ad : Option Addr) (m cap : Nat) (l : List UInt8) (n : Nat) (w : World) (h : Row w ad cap l) (hm : l.length = m) (hb : m ≤ 100000) (hn : n ≤ 100000) :
    Calls Try.prog 37 #[.slice ad m cap, .int .i64 n] w fun e w' => ∃ v, e = .returned v ∧ Own w w' v (sizedL l n) := by
  obtain ⟨K, hK⟩ : ∃ K, min n m = K := ⟨_, rfl⟩
  have HTK : Hid (l.take K = l.take n) := Lib.hid (by
    rw [← hK]
    rcases Nat.le_total n m with c | c
    · rw [Nat.min_eq_left c]
    · rw [Nat.min_eq_right c, List.take_of_length_le (by omega), List.take_of_length_le (by omega)])
  have HKL : Hid ((l.take K).length = K) := Lib.hid (by rw [List.length_take, hm]; omega)
  have HE0 := Lib.hid (own_empty (W0 := w) (w := w) (Below.refl _ _))
  have hba : Below w.heap.size w (w.alloc (.cells #[] 5)) := (Below.refl _ _).alloc (Nat.le_refl _) _
  have HT := Lib.hid ((h.later hba).take K)
  have HS := fun W => run_slB (W := W) (hi := K) h hm (by omega)
  clear hba
  have hmin : (n ≤ m ∧ K = n) ∨ (m < n ∧ K = m) := by omega
  have HSZ : Hid (sizedL l n = l.take n ++ List.replicate (n - m) 0) := Lib.hid (by unfold sizedL; rw [hm])
  have HKK : Hid (n = K + (n - m)) := Lib.hid (by omega)
  clear h hm hK
  go_enter Try.func37, Try.ntmps37
  rcases hmin with ⟨hc, rfl⟩ | ⟨hc, rfl⟩
  · go_wp2_with (at_builtin; refine wp_row rfl (.tmp 6) (.tmp 12) rfl _ [] rfl w HE0.out ad cap _ _ HT.out HKL.out rfl (by have := HKL.out; simp; omega) ?_; intro v6 w6 o6)
    rw [List.nil_append] at o6
    go_loopw [5] (fun v wr => ∃ k : Nat, K + k ≤ K ∧ Own w wr v (l.take K ++ List.replicate k 0)) (fun v _ => K - lenV v)
    case atStart => exact ⟨0, by omega, by simpa using o6⟩
    case round =>
      obtain ⟨k, hk, o⟩ := hrel
      have HO := Lib.hid o
      have HL : Hid ((l.take K ++ List.replicate k (0 : UInt8)).length = K + k) := Lib.hid (by rw [List.length_append, List.length_replicate, HKL.out])
      obtain ⟨a7, c7, rfl, _⟩ := o.row_n HL.out
      clear o
      by_cases hkn : K + k < K
      · exfalso; omega
      · have hd : decide (((K + k : Nat) : Int) < (K : Nat)) = false := decide_eq_false (by omega)
        have hke : k = K - m := by omega
        have HF : Hid (sizedL l K = l.take K ++ List.replicate k 0) := Lib.hid (by rw [HSZ.out, hke])
        clear hke
        go_wp2_with fail
        go_ret
        rw [HF.out]
        exact ⟨_, rfl, HO.out⟩
  · go_wp2_with (at_builtin; refine wp_row rfl (.tmp 6) (.tmp 12) rfl _ [] rfl w HE0.out ad cap _ _ HT.out HKL.out rfl (by have := HKL.out; simp; omega) ?_; intro v6 w6 o6)
    rw [List.nil_append] at o6
    go_loopw [5] (fun v wr => ∃ k : Nat, K + k ≤ n ∧ Own w wr v (l.take K ++ List.replicate k 0)) (fun v _ => n - lenV v)
    case atStart => exact ⟨0, by omega, by simpa using o6⟩
    case round =>
      obtain ⟨k, hk, o⟩ := hrel
      have HO := Lib.hid o
      have HL : Hid ((l.take K ++ List.replicate k (0 : UInt8)).length = K + k) := Lib.hid (by rw [List.length_append, List.length_replicate, HKL.out])
      obtain ⟨a7, c7, rfl, _⟩ := o.row_n HL.out
      clear o
      by_cases hkn : K + k < n
      · have hd : decide (((K + k : Nat) : Int) < (n : Nat)) = true := decide_eq_true (by omega)
        go_wp2_with (at_builtin; refine wp_byte rfl (.tmp 18) (.tmp 19) rfl _ _ rfl w HO.out _ 0 rfl rfl (by rw [HL.out]; omega) ?_; intro v7 w7 o7)
        rw [List.append_assoc, ← List.replicate_succ'] at o7
        have HL7 : Hid ((l.take K ++ List.replicate (k + 1) (0 : UInt8)).length = K + (k + 1)) := Lib.hid (by rw [List.length_append, List.length_replicate, HKL.out])
        obtain ⟨a8, c8, rfl, _⟩ := o7.row_n HL7.out
        go_roundw
        case rel => exact ⟨k + 1, by omega, o7⟩
        case measure => (try simp only [lenV]); try omega
      · have hd : decide (((K + k : Nat) : Int) < (n : Nat)) = false := decide_eq_false (by omega)
        have hke : k = n - K := by omega
        have HF : Hid (sizedL l n = l.take K ++ List.replicate k 0) := Lib.hid (by rw [HSZ.out, ← HTK.out, hke])
        clear hke
        go_wp2_with fail
        go_ret
        rw [HF.out]
        exact ⟨_, rfl, HO.out⟩
end Go.Proofs.Ytghglbaflmbeoaa
