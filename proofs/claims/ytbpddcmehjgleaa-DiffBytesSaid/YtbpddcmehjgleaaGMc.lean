/- Images: states as values; the document's own New, Find, Sized. | Images: the document's own New, Check, Read. | Images: the document's own Read. -/
import Derived.Test.YtbpddcmehjgleaaQRow
import Derived.Test.YtbpddcmehjgleaaMdPlain
import Derived.Test.YtbpddcmehjgleaaEvQ
import Derived.Test.YtbpddcmehjgleaaEvP
import Derived.Test.YtbpddcmehjgleaaSlB
import Derived.Test.YtbpddcmehjgleaaGz
import Derived.Test.YtbpddcmehjgleaaHeld
import Derived.Test.YtbpddcmehjgleaaRec
import Derived.Test.YtbpddcmehjgleaaSlC
import Derived.Test.YtbpddcmehjgleaaCl
import Derived.Deep.DeepCutAuto
import Derived.Deep.RegionWith
namespace Go.Proofs.Ytbpddcmehjgleaa
open Go.RowKit Go.Proofs
set_option linter.unusedVariables false
set_option linter.unusedSimpArgs false
set_option linter.unnecessarySimpa false

/-! ### snapshots, events, states as cells -/
def OdR : Rel Od := fun J w cs o => ∃ S v, cs = [.string S, v] ∧ S.data.toList = o.name ∧ S.size ≤ 9223372036854775807 ∧ BQ J w v o.data
theorem od_rel : RelOk OdR where
  keep := fun {J w w' cs t} h hb hs => by
    obtain ⟨S, v, h1, h2, h3, h4⟩ := h
    exact ⟨S, v, h1, h2, h3, h4.keep hb hs⟩
  weak := fun {J J' w cs t} h hj => by
    obtain ⟨S, v, h1, h2, h3, h4⟩ := h
    exact ⟨S, v, h1, h2, h3, h4.weak hj⟩
def EvL : Rel Ev := fun J w cs e => ∃ v S, cs = [.int .i64 e.kind, .int .i64 e.off, .int .i64 e.len, v, .string S] ∧ S.data.toList = e.name ∧ S.size ≤ 9223372036854775807 ∧ BQ J w v e.data
theorem ev_rel : RelOk EvL where
  keep := fun {J w w' cs t} h hb hs => by
    obtain ⟨S, v, h1, h2, h3, h4⟩ := h
    exact ⟨S, v, h1, h2, h3, h4.keep hb hs⟩
  weak := fun {J J' w cs t} h hj => by
    obtain ⟨S, v, h1, h2, h3, h4⟩ := h
    exact ⟨S, v, h1, h2, h3, h4.weak hj⟩
theorem info_od : (Try.prog.info? 38).map (fun i => (i.zero, i.size, i.bytes)) = some (some (.agg #[.string ⟨#[]⟩, .slice none 0 0]), 2, 40) := by kernel_rfl
theorem odT_ok : (rawT 2 38 30).Ok := rawT_ok (by decide) Try.underlying30 info_od (by decide) rfl
theorem info_evt : (Try.prog.info? 46).map (fun i => (i.zero, i.size, i.bytes)) = some (some (.agg #[.int .i64 0, .int .i64 0, .int .i64 0, .slice none 0 0, .string ⟨#[]⟩]), 5, 64) := by kernel_rfl
theorem evT_ok : (rawT 5 46 23).Ok := rawT_ok (by decide) Try.underlying23 info_evt (by decide) rfl
abbrev QO (J : Nat → Prop) (w : World) (v : Value) (l : List Od) : Prop := QRow J 2 38 30 OdR w v l
abbrev OO (J : Nat → Prop) (W0 w : World) (v : Value) (l : List Od) : Prop := NOwn J 2 38 30 OdR W0 w v l
abbrev QE (J : Nat → Prop) (w : World) (v : Value) (l : List Ev) : Prop := QRow J 5 46 23 EvL w v l
abbrev OEv (J : Nat → Prop) (W0 w : World) (v : Value) (l : List Ev) : Prop := NOwn J 5 46 23 EvL W0 w v l
structure StA (J : Nat → Prop) (w : World) (d v : Value) (s : Sx) : Prop where
  data : BQ J w d s.data
  snaps : QO J w v s.snaps
theorem StA.later {J : Nat → Prop} {w w' : World} {d v : Value} {s : Sx} (h : StA J w d v s) (hb : Below w.heap.size w w') : StA J w' d v s := ⟨h.data.later hb, h.snaps.later od_rel hb⟩
theorem StA.keep {J : Nat → Prop} {w w' : World} {d v : Value} {s : Sx} (h : StA J w d v s) (hb : ∀ b, b < w.heap.size → J b → w'.heap[b]? = w.heap[b]?) (hs : w.heap.size ≤ w'.heap.size) : StA J w' d v s := ⟨h.data.keep hb hs, h.snaps.keep od_rel hb hs⟩
theorem StA.weak {J J' : Nat → Prop} {w : World} {d v : Value} {s : Sx} (h : StA J w d v s) (hj : ∀ b, b < w.heap.size → J b → J' b) : StA J' w d v s := ⟨h.data.weak hj, h.snaps.weak od_rel hj⟩
theorem StA.open {J : Nat → Prop} {w : World} {d v : Value} {s : Sx} (h : StA J w d v s) : ∃ a1 c1 a2 c2, d = .slice a1 s.data.length c1 ∧ v = .slice a2 s.snaps.length c2 ∧ Row w a1 c1 s.data ∧ QO J w (.slice a2 s.snaps.length c2) s.snaps := by
  obtain ⟨a1, c1, h1, h2⟩ := h.data.row_n rfl
  obtain ⟨a2, c2, h3, _⟩ := h.snaps.val rfl
  exact ⟨a1, c1, a2, c2, h1, h3, h2, h3 ▸ h.snaps⟩
/-- A snapshot's cells. -/
theorem QRow.o2 {J : Nat → Prop} {w : World} {a : Option Addr} {n cap : Nat} {l : List Od} (h : QO J w (.slice a n cap) l) {i : Nat} {o : Od} (ho : l[i]? = some o) :
    ∃ b off S a2 c2, a = some ⟨b, off, .none⟩ ∧ w.cell? ⟨b, off + i * 2, .none⟩ = some (.string S) ∧ w.cell? ⟨b, off + i * 2 + 1, .none⟩ = some (.slice a2 o.data.length c2) ∧ S.data.toList = o.name ∧ S.size ≤ 9223372036854775807 ∧ Row w a2 c2 o.data := by
  obtain ⟨b, off, cs, ha, hl, ⟨S, v, rfl, h2, h3, h4⟩, hc⟩ := h.at ho
  obtain ⟨a2, c2, rfl, hr⟩ := h4.row_n rfl
  exact ⟨b, off, S, a2, c2, ha, hc 0 _ rfl, hc 1 _ rfl, h2, h3, hr⟩
theorem two_recsS (w : World) (cs ds : Array Value) (t u : TypeId) : RecAt ((w.alloc (.cells cs t)).alloc (.cells ds u)) w.heap.size cs t ∧ RecAt ((w.alloc (.cells cs t)).alloc (.cells ds u)) (w.heap.size + 1) ds u ∧ Below w.heap.size w ((w.alloc (.cells cs t)).alloc (.cells ds u)) := by
  have h1 := RecAt.new w cs t
  have h2 := RecAt.new (w.alloc (.cells cs t)) ds u
  rw [show (w.alloc (.cells cs t)).heap.size = w.heap.size + 1 by simp] at h2
  have b1 : Below w.heap.size w (w.alloc (.cells cs t)) := (Below.refl _ _).alloc (Nat.le_refl _) _
  have b2 : Below (w.alloc (.cells cs t)).heap.size (w.alloc (.cells cs t)) ((w.alloc (.cells cs t)).alloc (.cells ds u)) := (Below.refl _ _).alloc (Nat.le_refl _) _
  exact ⟨h1.later b2, h2, b1.trans (b2.mono b1.size)⟩
theorem three_recsS (w : World) (cs ds es : Array Value) (t u v : TypeId) : RecAt (((w.alloc (.cells cs t)).alloc (.cells ds u)).alloc (.cells es v)) w.heap.size cs t ∧ RecAt (((w.alloc (.cells cs t)).alloc (.cells ds u)).alloc (.cells es v)) (w.heap.size + 1) ds u ∧ RecAt (((w.alloc (.cells cs t)).alloc (.cells ds u)).alloc (.cells es v)) (w.heap.size + 2) es v ∧ Below w.heap.size w (((w.alloc (.cells cs t)).alloc (.cells ds u)).alloc (.cells es v)) := by
  obtain ⟨h1, h2, h3⟩ := two_recsS w cs ds t u
  have h4 := RecAt.new ((w.alloc (.cells cs t)).alloc (.cells ds u)) es v
  rw [show ((w.alloc (.cells cs t)).alloc (.cells ds u)).heap.size = w.heap.size + 2 by simp] at h4
  have b : Below ((w.alloc (.cells cs t)).alloc (.cells ds u)).heap.size ((w.alloc (.cells cs t)).alloc (.cells ds u)) (((w.alloc (.cells cs t)).alloc (.cells ds u)).alloc (.cells es v)) := (Below.refl _ _).alloc (Nat.le_refl _) _
  exact ⟨h1.later b, h2.later b, h4, h3.trans (b.mono h3.size)⟩
/-- A snapshot's place, -1 where there is none. -/
def findO (l : List Od) (n : List UInt8) : Int := match placeO l n with | some k => (k : Int) | none => -1
theorem findO_none {l : List Od} {n : List UInt8} (h : ∀ o ∈ l, o.name ≠ n) : findO l n = -1 := by
  have : placeO l n = none := by
    unfold placeO; rw [List.findIdx?_eq_none_iff]; intro o ho; simpa using h o ho
  unfold findO; rw [this]
theorem findO_some {l : List Od} {n : List UInt8} {j : Nat} {o : Od} (h : l[j]? = some o) (hn : o.name = n) (hf : ∀ k, k < j → ∀ p, l[k]? = some p → p.name ≠ n) : findO l n = (j : Int) := by
  have : placeO l n = some j := by
    unfold placeO
    rw [List.findIdx?_eq_some_iff_getElem]
    obtain ⟨hj, rfl⟩ := List.getElem?_eq_some_iff.1 h
    exact ⟨hj, by simpa using hn, fun k hk => by have := hf k hk l[k] (List.getElem?_eq_getElem (by omega)); simpa using this⟩
  unfold findO; rw [this]
theorem findO_range (l : List Od) (n : List UInt8) : -1 ≤ findO l n ∧ findO l n < l.length := by
  unfold findO
  cases h : placeO l n with
  | none => simp only; omega
  | some k =>
    obtain ⟨o, ho, _⟩ := placeO_look h
    have := (List.getElem?_eq_some_iff.1 ho).1
    simp only; omega
theorem findO_isSome {l : List Od} {n : List UInt8} : (placeO l n).isSome = decide (0 ≤ findO l n) := by
  unfold findO
  cases h : placeO l n with
  | none => simp
  | some k => simp
theorem str_iff {S T : ByteArray} {l m : List UInt8} (h1 : S.data.toList = l) (h2 : T.data.toList = m) : (S = T) ↔ l = m := by
  subst h1 h2
  constructor
  · rintro rfl; rfl
  · intro h
    cases S; cases T
    simp only at h
    congr 1
    exact Array.toList_inj.1 h
set_option maxRecDepth 20000 in
set_option maxHeartbeats 3200000 in
theorem rfind14_any (d : Value) (a : Option Addr) (n cap : Nat) (l : List Od) (T : ByteArray) (J : Nat → Prop) (w : World) (hd1 : d.oneCell' = true) (h : QO J w (.slice a n cap) l) (hT : T.size ≤ 9223372036854775807) :
    Calls Try.prog 51 #[.agg #[d, .slice a n cap], .string T] w fun e w' => e = .returned (.int .i64 (findO l T.data.toList)) ∧ Below w.heap.size w w' := by
  obtain ⟨hn, hcap, hcm, ha⟩ := h.cap
  unfold maxLen at hcm
  have HB0 := Lib.hid ((Below.refl w.heap.size w).alloc (Nat.le_refl _) (.cells #[d, .slice a n cap] 32))
  have HX0 := Lib.hid (RecAt.new w #[d, .slice a n cap] 32)
  have HR := Lib.hid (h.later od_rel HB0.out)
  have HN := Lib.hid hn
  obtain ⟨w1, hw1⟩ : ∃ W, w.alloc (.cells #[d, .slice a n cap] 32) = W := ⟨_, rfl⟩
  rw [hw1] at HX0 HB0 HR
  clear h hn
  go_enter Try.func51, Try.ntmps51
  go_upto_region 1 with fail
  try rw [hw1]
  clear hw1
  obtain ⟨X, hX⟩ : ∃ X, w.heap.size = X := ⟨_, rfl⟩
  rw [hX] at HX0 ⊢
  have HXS := Lib.hid hX
  clear hX
  go_wp2_with fail
  go_loopw [5] (fun i wr => ∃ j : Nat, i = .int .i64 j ∧ j ≤ n ∧ wr = w1 ∧ Hid (∀ k, k < j → ∀ p, l[k]? = some p → p.name ≠ T.data.toList)) (fun i _ => n - (intOf i).toNat)
  case atStart => exact ⟨0, rfl, by omega, rfl, Lib.hid (fun k h => by omega)⟩
  case round =>
    obtain ⟨j, rfl, hj, rfl, HA⟩ := hrel
    obtain ⟨x0, x1⟩ := HX0.out.c2
    by_cases hjn : (j : Int) < n
    · obtain ⟨o, ho⟩ : ∃ e, l[j]? = some e := ⟨l[j]'(by have := HN.out; omega), List.getElem?_eq_getElem _⟩
      obtain ⟨b, off, S, a2, c2, rfl, p0, p1, hS, hS2, _⟩ := HR.out.o2 ho
      have HO := Lib.hid ho
      have HSI := Lib.hid (str_iff hS (rfl : T.data.toList = _))
      clear ho hS hS2
      by_cases he : o.name = T.data.toList
      · have hq : (S.toList == T.toList) = true := (sbeq_iff _ _).2 (HSI.out.2 he)
        have HF := Lib.hid (findO_some HO.out he HA.out)
        clear he
        go_wp2_with fail
        go_ret
        exact ⟨ret_int HF.out.symm, HB0.out⟩
      · have hq : (S.toList == T.toList) = false := sbeq_no fun h => he (HSI.out.1 h)
        have HA2 : Hid (∀ k, k < j + 1 → ∀ p, l[k]? = some p → p.name ≠ T.data.toList) := Lib.hid fun k hk p hp => by
          by_cases c : k = j
          · subst c; rw [HO.out] at hp; cases hp; exact he
          · exact HA.out k (by omega) p hp
        clear he
        go_wp2_with fail
        go_roundw
        case rel => exact ⟨j + 1, by go_num, by omega, trivial, HA2⟩
        case measure => simp [intOf]; omega
    · have hjN : j = n := by omega
      have HF := Lib.hid (findO_none (l := l) (n := T.data.toList) (fun o ho => by
        obtain ⟨i, hi⟩ := List.mem_iff_getElem?.1 ho
        have hi2 := (List.getElem?_eq_some_iff.1 hi).1
        exact HA.out i (by rw [HN.out] at hi2; omega) o hi))
      clear hjN
      go_wp2_with fail
      go_ret
      exact ⟨ret_int HF.out.symm, HB0.out⟩

/-! ### another length -/
def lenV (v : Value) : Nat := match v with | .slice _ n _ => n | _ => 0
theorem sizedL_step {b : List UInt8} {n k : Nat} (h : k < n - b.length) : b.take n ++ List.replicate (k + 1) (0 : UInt8) = (b.take n ++ List.replicate k 0) ++ [0] := by
  rw [List.replicate_succ', List.append_assoc]
set_option maxRecDepth 20000 in
set_option maxHeartbeats 3200000 in
theorem rsized_any (ad : Option Addr) (m cap : Nat) (l : List UInt8) (n : Nat) (w : World) (h : Row w ad cap l) (hm : l.length = m) (hb : m ≤ 100000) (hn : n ≤ 100000) :
    Calls Try.prog 24 #[.slice ad m cap, .int .i64 n] w fun e w' => ∃ v, e = .returned v ∧ Own w w' v (sizedL l n) := by
  obtain ⟨K, hK⟩ : ∃ K, min n m = K := ⟨_, rfl⟩
  have HTK : Hid (l.take K = l.take n) := Lib.hid (by
    rw [← hK]
    rcases Nat.le_total n m with c | c
    · rw [Nat.min_eq_left c]
    · rw [Nat.min_eq_right c, List.take_of_length_le (by omega), List.take_of_length_le (by omega)])
  have HKL : Hid ((l.take K).length = K) := Lib.hid (by rw [List.length_take, hm]; omega)
  have HE0 := Lib.hid (own_empty (W0 := w) (w := w) (Below.refl _ _))
  have hba : Below w.heap.size w (w.alloc (.cells #[] 5)) := (Below.refl _ _).alloc (Nat.le_refl _) _
  have HT := Lib.hid ((h.later hba).take K)
  have HS := fun W => run_slB (W := W) (hi := K) h hm (by omega)
  clear hba
  have hmin : (n ≤ m ∧ K = n) ∨ (m < n ∧ K = m) := by omega
  have HSZ : Hid (sizedL l n = l.take n ++ List.replicate (n - m) 0) := Lib.hid (by unfold sizedL; rw [hm])
  have HKK : Hid (n = K + (n - m)) := Lib.hid (by omega)
  clear h hm hK
  go_enter Try.func24, Try.ntmps24
  rcases hmin with ⟨hc, rfl⟩ | ⟨hc, rfl⟩
  · go_wp2_with (at_builtin; refine wp_row rfl (.tmp 6) (.tmp 12) rfl _ [] rfl w HE0.out ad cap _ _ HT.out HKL.out rfl (by have := HKL.out; simp; omega) ?_; intro v6 w6 o6)
    rw [List.nil_append] at o6
    go_loopw [5] (fun v wr => ∃ k : Nat, K + k ≤ K ∧ Own w wr v (l.take K ++ List.replicate k 0)) (fun v _ => K - lenV v)
    case atStart => exact ⟨0, by omega, by simpa using o6⟩
    case round =>
      obtain ⟨k, hk, o⟩ := hrel
      have HO := Lib.hid o
      have HL : Hid ((l.take K ++ List.replicate k (0 : UInt8)).length = K + k) := Lib.hid (by rw [List.length_append, List.length_replicate, HKL.out])
      obtain ⟨a7, c7, rfl, _⟩ := o.row_n HL.out
      clear o
      by_cases hkn : K + k < K
      · exfalso; omega
      · have hd : decide (((K + k : Nat) : Int) < (K : Nat)) = false := decide_eq_false (by omega)
        have hke : k = K - m := by omega
        have HF : Hid (sizedL l K = l.take K ++ List.replicate k 0) := Lib.hid (by rw [HSZ.out, hke])
        clear hke
        go_wp2_with fail
        go_ret
        rw [HF.out]
        exact ⟨_, rfl, HO.out⟩
  · go_wp2_with (at_builtin; refine wp_row rfl (.tmp 6) (.tmp 12) rfl _ [] rfl w HE0.out ad cap _ _ HT.out HKL.out rfl (by have := HKL.out; simp; omega) ?_; intro v6 w6 o6)
    rw [List.nil_append] at o6
    go_loopw [5] (fun v wr => ∃ k : Nat, K + k ≤ n ∧ Own w wr v (l.take K ++ List.replicate k 0)) (fun v _ => n - lenV v)
    case atStart => exact ⟨0, by omega, by simpa using o6⟩
    case round =>
      obtain ⟨k, hk, o⟩ := hrel
      have HO := Lib.hid o
      have HL : Hid ((l.take K ++ List.replicate k (0 : UInt8)).length = K + k) := Lib.hid (by rw [List.length_append, List.length_replicate, HKL.out])
      obtain ⟨a7, c7, rfl, _⟩ := o.row_n HL.out
      clear o
      by_cases hkn : K + k < n
      · have hd : decide (((K + k : Nat) : Int) < (n : Nat)) = true := decide_eq_true (by omega)
        go_wp2_with (at_builtin; refine wp_byte rfl (.tmp 18) (.tmp 19) rfl _ _ rfl w HO.out _ 0 rfl rfl (by rw [HL.out]; omega) ?_; intro v7 w7 o7)
        rw [List.append_assoc, ← List.replicate_succ'] at o7
        have HL7 : Hid ((l.take K ++ List.replicate (k + 1) (0 : UInt8)).length = K + (k + 1)) := Lib.hid (by rw [List.length_append, List.length_replicate, HKL.out])
        obtain ⟨a8, c8, rfl, _⟩ := o7.row_n HL7.out
        go_roundw
        case rel => exact ⟨k + 1, by omega, o7⟩
        case measure => (try simp only [lenV]); try omega
      · have hd : decide (((K + k : Nat) : Int) < (n : Nat)) = false := decide_eq_false (by omega)
        have hke : k = n - K := by omega
        have HF : Hid (sizedL l n = l.take K ++ List.replicate k 0) := Lib.hid (by rw [HSZ.out, ← HTK.out, hke])
        clear hke
        go_wp2_with fail
        go_ret
        rw [HF.out]
        exact ⟨_, rfl, HO.out⟩
end Go.Proofs.Ytbpddcmehjgleaa
namespace Go.Proofs.Ytbpddcmehjgleaa
open Go.RowKit Go.Proofs
set_option linter.unusedVariables false
set_option linter.unusedSimpArgs false
set_option linter.unnecessarySimpa false

abbrev zeroSt : Array Value := #[.slice none 0 0, .slice none 0 0]
theorem info_st : (Try.prog.info? 32).map (·.size) = some 2 := by kernel_rfl
theorem heldM_eq (n : Int) : min (max n 0) 512 = ((heldM n : Nat) : Int) := by unfold heldM; omega
theorem heldM_le (n : Int) : heldM n ≤ 512 := by unfold heldM; omega
set_option maxRecDepth 20000 in
set_option maxHeartbeats 3200000 in
theorem rnew14_any (size : Int) (J : Nat → Prop) (w : World) (hJ : NewJ J w) :
    Calls Try.prog 32 #[.int .i64 size] w fun e w' => ∃ d v, e = .returned (.agg #[d, v]) ∧ StA J w' d v (newM size) ∧ Below w.heap.size w w' := by
  have HB0 := Lib.hid ((Below.refl w.heap.size w).alloc (Nat.le_refl _) (.cells zeroSt 32))
  have HX0 := Lib.hid (RecAt.new w zeroSt 32)
  obtain ⟨w1, hw1⟩ : ∃ W, w.alloc (.cells zeroSt 32) = W := ⟨_, rfl⟩
  rw [hw1] at HX0 HB0
  have HHE := Lib.hid (fun W => rheld_any size 0 512 (by omega) W)
  rw [heldM_eq] at HHE
  have hH5 := heldM_le size
  have HNEW : Hid (newM size = ⟨List.replicate (heldM size) 0, []⟩) := Lib.hid rfl
  obtain ⟨H, hH⟩ : ∃ H, heldM size = H := ⟨_, rfl⟩
  rw [hH] at HHE hH5 HNEW
  clear hH
  have HJ := Lib.hid hJ
  clear hJ
  go_enter Try.func32, Try.ntmps32
  go_upto_region 1 with fail
  try rw [hw1]
  clear hw1
  obtain ⟨X, hX⟩ : ∃ X, w.heap.size = X := ⟨_, rfl⟩
  rw [hX] at HX0 ⊢
  have HXS := Lib.hid hX
  clear hX
  go_wp2_with fail
  refine (HHE.out w1).mono ?_
  rintro e w2 ⟨rfl, rfl⟩
  go_wp2_with (first | (refine wp_zeros rfl _ _ rfl w1 (Below.refl _ _) .i64 .i64 H H H rfl rfl rfl rfl (by omega) ?_; intro w3 o3 b3) | (refine wpList_rec rfl rfl X zeroSt #[.slice (some ⟨w1.heap.size, 0, none⟩) H H, .slice none 0 0] rfl rfl (HX0.out.later b3) rfl (by kernel_rfl) (by kernel_rfl) ?_; intro w4 r1 r2 r3 r4))
  refine bodyPost_ret (results_c rfl rfl r1 Try.underlying32 rfl (by kernel_rfl)) rfl ?_
  have hb3 : Below w.heap.size w w3 := HB0.out.trans (b3.mono HB0.out.size)
  have hX1 := HXS.out
  refine ⟨_, _, rfl, ?_, hb3.grown r4 hb3.size (fun q e => by cases e; exact Nat.le_of_eq HXS.out)⟩
  rw [HNEW.out]
  have hq : BQ (newB w1) w3 (.slice (some ⟨w1.heap.size, 0, none⟩) H H) (List.replicate H 0) := BQ.own o3 (fun b h => h)
  have hX2 := HX0.out.lt
  refine ⟨(hq.keep (fun b hb hj => r3 b (fun e => ?_)) (Nat.le_of_eq r2.symm)).weak fun b _ hj => HJ.out b ?_, QRow.nil _ _⟩
  · subst e; unfold newB at hj; omega
  · have := HB0.out.size; unfold newB at hj; omega

/-! ### Check -/
theorem check_no {s : Sx} {e : Ev} (h : e.right = false) : checkM s e = 1 := by unfold checkM; rw [if_pos h]
theorem check_plain {s : Sx} {e : Ev} (h : e.right = true) (hk : e.kind = 1 ∨ e.kind = 2 ∨ e.kind = 3) : checkM s e = if (s.data.length : Int) < (spanA e).1 + (spanA e).2 then 3 else 0 := by unfold checkM; rw [if_neg (by rw [h]; simp), if_pos hk]
theorem check_snap {s : Sx} {e : Ev} (h : e.right = true) (hk : e.kind = 5) : checkM s e = if 0 ≤ findO s.snaps e.name then 5 else if 8 ≤ s.snaps.length then 6 else 0 := by
  unfold checkM; rw [if_neg (by rw [h]; simp), if_neg (by omega), if_pos hk, findO_isSome]; simp
theorem check_name {s : Sx} {e : Ev} (h : e.right = true) (hk : e.kind = 6 ∨ e.kind = 7) : checkM s e = if 0 ≤ findO s.snaps e.name then 0 else 4 := by
  unfold checkM; rw [if_neg (by rw [h]; simp), if_neg (by omega), if_neg (by omega), if_pos hk, findO_isSome]; simp
theorem check_rest {s : Sx} {e : Ev} (h : e.right = true) (hk : e.kind = 4 ∨ e.kind = 8) : checkM s e = 0 := by
  unfold checkM; rw [if_neg (by rw [h]; simp), if_neg (by omega), if_neg (by omega), if_neg (by omega)]
theorem span_le {e : Ev} (h : e.right = true) (hk : e.kind = 1 ∨ e.kind = 2 ∨ e.kind = 3) : 0 ≤ (spanA e).1 ∧ (spanA e).1 ≤ 512 ∧ 0 ≤ (spanA e).2 ∧ (spanA e).2 ≤ 512 := by
  have hR := right_iff.1 h
  rcases hk with hk | hk
  · rw [span_1 h hk]
    rcases hR with r | r | r | r | r <;> first | omega | (have := within_iff.1 r.2.2.1; simp only; omega)
  · rw [span_2 h hk]
    rcases hR with r | r | r | r | r <;> first | omega | (have := within_iff.1 r.2.2.1; simp only; omega)
section
variable (d v : Value) (s : Sx) (o m : Int) (a : Option Addr) (n c : Nat) (l : List UInt8) (T : ByteArray) (J : Nat → Prop) (w : World)
set_option maxRecDepth 20000 in
set_option maxHeartbeats 3200000 in
theorem rcheck14_p1 (h : StA J w d v s) (hr : Row w a c l) (hn : l.length = n) (hT : T.size ≤ 9223372036854775807) :
    Calls Try.prog 50 #[.agg #[d, v], .agg #[.int .i64 1, .int .i64 o, .int .i64 m, .slice a n c, .string T]] w fun e w' => e = .returned (.int .i64 (checkM s ⟨1, o, m, l, T.data.toList⟩)) ∧ Below w.heap.size w w' := by
  obtain ⟨a1, c1, a2, c2, rfl, rfl, rd, rs⟩ := h.open
  obtain ⟨CK, hCK⟩ : ∃ z, checkM s ⟨1, o, m, l, T.data.toList⟩ = z := ⟨_, rfl⟩
  rw [hCK]
  have HCK := Lib.hid hCK
  clear hCK
  obtain ⟨X2, X3, B3⟩ := two_recsS w #[.slice a1 s.data.length c1, .slice a2 s.snaps.length c2] #[.int .i64 1, .int .i64 o, .int .i64 m, .slice a n c, .string T] 32 46
  obtain ⟨w1, hw1⟩ : ∃ W, ((w.alloc (.cells #[.slice a1 s.data.length c1, .slice a2 s.snaps.length c2] 32)).alloc (.cells #[.int .i64 1, .int .i64 o, .int .i64 m, .slice a n c, .string T] 46)) = W := ⟨_, rfl⟩
  rw [hw1] at X2 X3 B3
  obtain ⟨nd, hnd⟩ : ∃ z, s.data.length = z := ⟨_, rfl⟩
  obtain ⟨ns, hns⟩ : ∃ z, s.snaps.length = z := ⟨_, rfl⟩
  rw [hnd] at X2 hw1 ⊢
  rw [hns] at X2 hw1 rs ⊢
  have HX2 := Lib.hid X2
  have HX3 := Lib.hid X3
  have HB3 := Lib.hid B3
  have HRS := Lib.hid (rs.later od_rel B3)
  have hndc : nd ≤ 9223372036854775807 := by have := rd.1; have := rd.2.1; unfold maxLen at this; omega
  have hnsc : ns ≤ 9223372036854775807 := by obtain ⟨_, h1, h2, _⟩ := rs.cap; unfold maxLen at h2; omega
  have HRE := Lib.hid (evrright_any o m a n c l T w1 1 (hr.later B3) hn hT)
  have HSP := Lib.hid (fun W (hb : Below w1.heap.size w1 W) => rspan_any 1 o m a n c l T W ((hr.later B3).later hb) hn hT)
  clear X2 X3 B3 rd rs hr hn h
  obtain ⟨x0, x1⟩ := HX2.out.c2
  obtain ⟨y0, y1, y2, y3, y4⟩ := HX3.out.c5
  go_enter Try.func50, Try.ntmps50
  go_upto_region 1 with fail
  try rw [hw1]
  clear hw1
  obtain ⟨X, hX⟩ : ∃ X, w.heap.size = X := ⟨_, rfl⟩
  simp only [hX] at HX2 HX3 x0 x1 y0 y1 y2 y3 y4 ⊢
  have HXS := Lib.hid hX
  clear hX
  go_wp2_with fail
  refine HRE.out.mono ?_
  rintro e w2 ⟨rfl, b2⟩
  have HB2 := Lib.hid (HB3.out.trans (b2.mono HB3.out.size))
  have HX22 := Lib.hid (HX2.out.later b2)
  have HX32 := Lib.hid (HX3.out.later b2)
  have HR2 := Lib.hid (HRS.out.later od_rel b2)
  have HSP2 := Lib.hid (HSP.out w2 b2)
  clear b2 x0 x1 y0 y1 y2 y3 y4 HSP HRE HRS
  obtain ⟨x0, x1⟩ := HX22.out.c2
  obtain ⟨y0, y1, y2, y3, y4⟩ := HX32.out.c5
  cases hR : Ev.right ⟨1, o, m, l, T.data.toList⟩ with
  | false =>
    have HF := Lib.hid (HCK.out.symm.trans (check_no hR))
    clear hR
    go_wp2_with fail
    go_ret
    rw [HF.out]
    exact ⟨rfl, HB2.out⟩
  | true =>
    have hs := span_le hR (by simp)
    have HF := Lib.hid (HCK.out.symm.trans (check_plain hR (by simp)))
    rw [hnd] at HF
    obtain ⟨p, hp⟩ : ∃ z, (spanA ⟨1, o, m, l, T.data.toList⟩).1 = z := ⟨_, rfl⟩
    obtain ⟨q, hq⟩ : ∃ z, (spanA ⟨1, o, m, l, T.data.toList⟩).2 = z := ⟨_, rfl⟩
    rw [hp, hq] at HSP2 hs HF
    have hw : wrap64 (p + q) = p + q := IntWalk.wrap64_in _ (by omega)
    clear hR hp hq
    go_wp2_with fail
    refine HSP2.out.mono ?_
    rintro e w3 ⟨rfl, b3⟩
    have HB4 := Lib.hid (HB2.out.trans (b3.mono HB2.out.size))
    obtain ⟨z0, z1⟩ := (HX22.out.later b3).c2
    clear b3 x0 x1 y0 y1 y2 y3 y4
    by_cases hlt : (nd : Int) < p + q
    · rw [if_pos hlt] at HF
      go_wp2_with fail
      go_ret
      rw [HF.out]
      exact ⟨rfl, HB4.out⟩
    · rw [if_neg hlt] at HF
      go_wp2_with fail
      go_ret
      rw [HF.out]
      exact ⟨rfl, HB4.out⟩
set_option maxRecDepth 20000 in
set_option maxHeartbeats 3200000 in
theorem rcheck14_p2 (h : StA J w d v s) (hr : Row w a c l) (hn : l.length = n) (hT : T.size ≤ 9223372036854775807) :
    Calls Try.prog 50 #[.agg #[d, v], .agg #[.int .i64 2, .int .i64 o, .int .i64 m, .slice a n c, .string T]] w fun e w' => e = .returned (.int .i64 (checkM s ⟨2, o, m, l, T.data.toList⟩)) ∧ Below w.heap.size w w' := by
  obtain ⟨a1, c1, a2, c2, rfl, rfl, rd, rs⟩ := h.open
  obtain ⟨CK, hCK⟩ : ∃ z, checkM s ⟨2, o, m, l, T.data.toList⟩ = z := ⟨_, rfl⟩
  rw [hCK]
  have HCK := Lib.hid hCK
  clear hCK
  obtain ⟨X2, X3, B3⟩ := two_recsS w #[.slice a1 s.data.length c1, .slice a2 s.snaps.length c2] #[.int .i64 2, .int .i64 o, .int .i64 m, .slice a n c, .string T] 32 46
  obtain ⟨w1, hw1⟩ : ∃ W, ((w.alloc (.cells #[.slice a1 s.data.length c1, .slice a2 s.snaps.length c2] 32)).alloc (.cells #[.int .i64 2, .int .i64 o, .int .i64 m, .slice a n c, .string T] 46)) = W := ⟨_, rfl⟩
  rw [hw1] at X2 X3 B3
  obtain ⟨nd, hnd⟩ : ∃ z, s.data.length = z := ⟨_, rfl⟩
  obtain ⟨ns, hns⟩ : ∃ z, s.snaps.length = z := ⟨_, rfl⟩
  rw [hnd] at X2 hw1 ⊢
  rw [hns] at X2 hw1 rs ⊢
  have HX2 := Lib.hid X2
  have HX3 := Lib.hid X3
  have HB3 := Lib.hid B3
  have HRS := Lib.hid (rs.later od_rel B3)
  have hndc : nd ≤ 9223372036854775807 := by have := rd.1; have := rd.2.1; unfold maxLen at this; omega
  have hnsc : ns ≤ 9223372036854775807 := by obtain ⟨_, h1, h2, _⟩ := rs.cap; unfold maxLen at h2; omega
  have HRE := Lib.hid (evrright_any o m a n c l T w1 2 (hr.later B3) hn hT)
  have HSP := Lib.hid (fun W (hb : Below w1.heap.size w1 W) => rspan_any 2 o m a n c l T W ((hr.later B3).later hb) hn hT)
  clear X2 X3 B3 rd rs hr hn h
  obtain ⟨x0, x1⟩ := HX2.out.c2
  obtain ⟨y0, y1, y2, y3, y4⟩ := HX3.out.c5
  go_enter Try.func50, Try.ntmps50
  go_upto_region 1 with fail
  try rw [hw1]
  clear hw1
  obtain ⟨X, hX⟩ : ∃ X, w.heap.size = X := ⟨_, rfl⟩
  simp only [hX] at HX2 HX3 x0 x1 y0 y1 y2 y3 y4 ⊢
  have HXS := Lib.hid hX
  clear hX
  go_wp2_with fail
  refine HRE.out.mono ?_
  rintro e w2 ⟨rfl, b2⟩
  have HB2 := Lib.hid (HB3.out.trans (b2.mono HB3.out.size))
  have HX22 := Lib.hid (HX2.out.later b2)
  have HX32 := Lib.hid (HX3.out.later b2)
  have HR2 := Lib.hid (HRS.out.later od_rel b2)
  have HSP2 := Lib.hid (HSP.out w2 b2)
  clear b2 x0 x1 y0 y1 y2 y3 y4 HSP HRE HRS
  obtain ⟨x0, x1⟩ := HX22.out.c2
  obtain ⟨y0, y1, y2, y3, y4⟩ := HX32.out.c5
  cases hR : Ev.right ⟨2, o, m, l, T.data.toList⟩ with
  | false =>
    have HF := Lib.hid (HCK.out.symm.trans (check_no hR))
    clear hR
    go_wp2_with fail
    go_ret
    rw [HF.out]
    exact ⟨rfl, HB2.out⟩
  | true =>
    have hs := span_le hR (by simp)
    have HF := Lib.hid (HCK.out.symm.trans (check_plain hR (by simp)))
    rw [hnd] at HF
    obtain ⟨p, hp⟩ : ∃ z, (spanA ⟨2, o, m, l, T.data.toList⟩).1 = z := ⟨_, rfl⟩
    obtain ⟨q, hq⟩ : ∃ z, (spanA ⟨2, o, m, l, T.data.toList⟩).2 = z := ⟨_, rfl⟩
    rw [hp, hq] at HSP2 hs HF
    have hw : wrap64 (p + q) = p + q := IntWalk.wrap64_in _ (by omega)
    clear hR hp hq
    go_wp2_with fail
    refine HSP2.out.mono ?_
    rintro e w3 ⟨rfl, b3⟩
    have HB4 := Lib.hid (HB2.out.trans (b3.mono HB2.out.size))
    obtain ⟨z0, z1⟩ := (HX22.out.later b3).c2
    clear b3 x0 x1 y0 y1 y2 y3 y4
    by_cases hlt : (nd : Int) < p + q
    · rw [if_pos hlt] at HF
      go_wp2_with fail
      go_ret
      rw [HF.out]
      exact ⟨rfl, HB4.out⟩
    · rw [if_neg hlt] at HF
      go_wp2_with fail
      go_ret
      rw [HF.out]
      exact ⟨rfl, HB4.out⟩
set_option maxRecDepth 20000 in
set_option maxHeartbeats 3200000 in
theorem rcheck14_p3 (h : StA J w d v s) (hr : Row w a c l) (hn : l.length = n) (hT : T.size ≤ 9223372036854775807) :
    Calls Try.prog 50 #[.agg #[d, v], .agg #[.int .i64 3, .int .i64 o, .int .i64 m, .slice a n c, .string T]] w fun e w' => e = .returned (.int .i64 (checkM s ⟨3, o, m, l, T.data.toList⟩)) ∧ Below w.heap.size w w' := by
  obtain ⟨a1, c1, a2, c2, rfl, rfl, rd, rs⟩ := h.open
  obtain ⟨CK, hCK⟩ : ∃ z, checkM s ⟨3, o, m, l, T.data.toList⟩ = z := ⟨_, rfl⟩
  rw [hCK]
  have HCK := Lib.hid hCK
  clear hCK
  obtain ⟨X2, X3, B3⟩ := two_recsS w #[.slice a1 s.data.length c1, .slice a2 s.snaps.length c2] #[.int .i64 3, .int .i64 o, .int .i64 m, .slice a n c, .string T] 32 46
  obtain ⟨w1, hw1⟩ : ∃ W, ((w.alloc (.cells #[.slice a1 s.data.length c1, .slice a2 s.snaps.length c2] 32)).alloc (.cells #[.int .i64 3, .int .i64 o, .int .i64 m, .slice a n c, .string T] 46)) = W := ⟨_, rfl⟩
  rw [hw1] at X2 X3 B3
  obtain ⟨nd, hnd⟩ : ∃ z, s.data.length = z := ⟨_, rfl⟩
  obtain ⟨ns, hns⟩ : ∃ z, s.snaps.length = z := ⟨_, rfl⟩
  rw [hnd] at X2 hw1 ⊢
  rw [hns] at X2 hw1 rs ⊢
  have HX2 := Lib.hid X2
  have HX3 := Lib.hid X3
  have HB3 := Lib.hid B3
  have HRS := Lib.hid (rs.later od_rel B3)
  have hndc : nd ≤ 9223372036854775807 := by have := rd.1; have := rd.2.1; unfold maxLen at this; omega
  have hnsc : ns ≤ 9223372036854775807 := by obtain ⟨_, h1, h2, _⟩ := rs.cap; unfold maxLen at h2; omega
  have HRE := Lib.hid (evrright_any o m a n c l T w1 3 (hr.later B3) hn hT)
  have HSP := Lib.hid (fun W (hb : Below w1.heap.size w1 W) => rspan_any 3 o m a n c l T W ((hr.later B3).later hb) hn hT)
  clear X2 X3 B3 rd rs hr hn h
  obtain ⟨x0, x1⟩ := HX2.out.c2
  obtain ⟨y0, y1, y2, y3, y4⟩ := HX3.out.c5
  go_enter Try.func50, Try.ntmps50
  go_upto_region 1 with fail
  try rw [hw1]
  clear hw1
  obtain ⟨X, hX⟩ : ∃ X, w.heap.size = X := ⟨_, rfl⟩
  simp only [hX] at HX2 HX3 x0 x1 y0 y1 y2 y3 y4 ⊢
  have HXS := Lib.hid hX
  clear hX
  go_wp2_with fail
  refine HRE.out.mono ?_
  rintro e w2 ⟨rfl, b2⟩
  have HB2 := Lib.hid (HB3.out.trans (b2.mono HB3.out.size))
  have HX22 := Lib.hid (HX2.out.later b2)
  have HX32 := Lib.hid (HX3.out.later b2)
  have HR2 := Lib.hid (HRS.out.later od_rel b2)
  have HSP2 := Lib.hid (HSP.out w2 b2)
  clear b2 x0 x1 y0 y1 y2 y3 y4 HSP HRE HRS
  obtain ⟨x0, x1⟩ := HX22.out.c2
  obtain ⟨y0, y1, y2, y3, y4⟩ := HX32.out.c5
  cases hR : Ev.right ⟨3, o, m, l, T.data.toList⟩ with
  | false =>
    have HF := Lib.hid (HCK.out.symm.trans (check_no hR))
    clear hR
    go_wp2_with fail
    go_ret
    rw [HF.out]
    exact ⟨rfl, HB2.out⟩
  | true =>
    have hs := span_le hR (by simp)
    have HF := Lib.hid (HCK.out.symm.trans (check_plain hR (by simp)))
    rw [hnd] at HF
    obtain ⟨p, hp⟩ : ∃ z, (spanA ⟨3, o, m, l, T.data.toList⟩).1 = z := ⟨_, rfl⟩
    obtain ⟨q, hq⟩ : ∃ z, (spanA ⟨3, o, m, l, T.data.toList⟩).2 = z := ⟨_, rfl⟩
    rw [hp, hq] at HSP2 hs HF
    have hw : wrap64 (p + q) = p + q := IntWalk.wrap64_in _ (by omega)
    clear hR hp hq
    go_wp2_with fail
    refine HSP2.out.mono ?_
    rintro e w3 ⟨rfl, b3⟩
    have HB4 := Lib.hid (HB2.out.trans (b3.mono HB2.out.size))
    obtain ⟨z0, z1⟩ := (HX22.out.later b3).c2
    clear b3 x0 x1 y0 y1 y2 y3 y4
    by_cases hlt : (nd : Int) < p + q
    · rw [if_pos hlt] at HF
      go_wp2_with fail
      go_ret
      rw [HF.out]
      exact ⟨rfl, HB4.out⟩
    · rw [if_neg hlt] at HF
      go_wp2_with fail
      go_ret
      rw [HF.out]
      exact ⟨rfl, HB4.out⟩
set_option maxRecDepth 20000 in
set_option maxHeartbeats 3200000 in
theorem rcheck14_r4 (h : StA J w d v s) (hr : Row w a c l) (hn : l.length = n) (hT : T.size ≤ 9223372036854775807) :
    Calls Try.prog 50 #[.agg #[d, v], .agg #[.int .i64 4, .int .i64 o, .int .i64 m, .slice a n c, .string T]] w fun e w' => e = .returned (.int .i64 (checkM s ⟨4, o, m, l, T.data.toList⟩)) ∧ Below w.heap.size w w' := by
  obtain ⟨a1, c1, a2, c2, rfl, rfl, rd, rs⟩ := h.open
  obtain ⟨CK, hCK⟩ : ∃ z, checkM s ⟨4, o, m, l, T.data.toList⟩ = z := ⟨_, rfl⟩
  rw [hCK]
  have HCK := Lib.hid hCK
  clear hCK
  obtain ⟨X2, X3, B3⟩ := two_recsS w #[.slice a1 s.data.length c1, .slice a2 s.snaps.length c2] #[.int .i64 4, .int .i64 o, .int .i64 m, .slice a n c, .string T] 32 46
  obtain ⟨w1, hw1⟩ : ∃ W, ((w.alloc (.cells #[.slice a1 s.data.length c1, .slice a2 s.snaps.length c2] 32)).alloc (.cells #[.int .i64 4, .int .i64 o, .int .i64 m, .slice a n c, .string T] 46)) = W := ⟨_, rfl⟩
  rw [hw1] at X2 X3 B3
  obtain ⟨nd, hnd⟩ : ∃ z, s.data.length = z := ⟨_, rfl⟩
  obtain ⟨ns, hns⟩ : ∃ z, s.snaps.length = z := ⟨_, rfl⟩
  rw [hnd] at X2 hw1 ⊢
  rw [hns] at X2 hw1 rs ⊢
  have HX2 := Lib.hid X2
  have HX3 := Lib.hid X3
  have HB3 := Lib.hid B3
  have HRS := Lib.hid (rs.later od_rel B3)
  have hndc : nd ≤ 9223372036854775807 := by have := rd.1; have := rd.2.1; unfold maxLen at this; omega
  have hnsc : ns ≤ 9223372036854775807 := by obtain ⟨_, h1, h2, _⟩ := rs.cap; unfold maxLen at h2; omega
  have HRE := Lib.hid (evrright_any o m a n c l T w1 4 (hr.later B3) hn hT)
  have HSP := Lib.hid (fun W (hb : Below w1.heap.size w1 W) => rspan_any 4 o m a n c l T W ((hr.later B3).later hb) hn hT)
  clear X2 X3 B3 rd rs hr hn h
  obtain ⟨x0, x1⟩ := HX2.out.c2
  obtain ⟨y0, y1, y2, y3, y4⟩ := HX3.out.c5
  go_enter Try.func50, Try.ntmps50
  go_upto_region 1 with fail
  try rw [hw1]
  clear hw1
  obtain ⟨X, hX⟩ : ∃ X, w.heap.size = X := ⟨_, rfl⟩
  simp only [hX] at HX2 HX3 x0 x1 y0 y1 y2 y3 y4 ⊢
  have HXS := Lib.hid hX
  clear hX
  go_wp2_with fail
  refine HRE.out.mono ?_
  rintro e w2 ⟨rfl, b2⟩
  have HB2 := Lib.hid (HB3.out.trans (b2.mono HB3.out.size))
  have HX22 := Lib.hid (HX2.out.later b2)
  have HX32 := Lib.hid (HX3.out.later b2)
  have HR2 := Lib.hid (HRS.out.later od_rel b2)
  have HSP2 := Lib.hid (HSP.out w2 b2)
  clear b2 x0 x1 y0 y1 y2 y3 y4 HSP HRE HRS
  obtain ⟨x0, x1⟩ := HX22.out.c2
  obtain ⟨y0, y1, y2, y3, y4⟩ := HX32.out.c5
  cases hR : Ev.right ⟨4, o, m, l, T.data.toList⟩ with
  | false =>
    have HF := Lib.hid (HCK.out.symm.trans (check_no hR))
    clear hR
    go_wp2_with fail
    go_ret
    rw [HF.out]
    exact ⟨rfl, HB2.out⟩
  | true =>
    have HF := Lib.hid (HCK.out.symm.trans (check_rest hR (by simp)))
    clear hR
    go_wp2_with fail
    go_ret
    rw [HF.out]
    exact ⟨rfl, HB2.out⟩
set_option maxRecDepth 20000 in
set_option maxHeartbeats 3200000 in
theorem rcheck14_s5 (h : StA J w d v s) (hr : Row w a c l) (hn : l.length = n) (hT : T.size ≤ 9223372036854775807) :
    Calls Try.prog 50 #[.agg #[d, v], .agg #[.int .i64 5, .int .i64 o, .int .i64 m, .slice a n c, .string T]] w fun e w' => e = .returned (.int .i64 (checkM s ⟨5, o, m, l, T.data.toList⟩)) ∧ Below w.heap.size w w' := by
  obtain ⟨a1, c1, a2, c2, rfl, rfl, rd, rs⟩ := h.open
  obtain ⟨CK, hCK⟩ : ∃ z, checkM s ⟨5, o, m, l, T.data.toList⟩ = z := ⟨_, rfl⟩
  rw [hCK]
  have HCK := Lib.hid hCK
  clear hCK
  obtain ⟨X2, X3, B3⟩ := two_recsS w #[.slice a1 s.data.length c1, .slice a2 s.snaps.length c2] #[.int .i64 5, .int .i64 o, .int .i64 m, .slice a n c, .string T] 32 46
  obtain ⟨w1, hw1⟩ : ∃ W, ((w.alloc (.cells #[.slice a1 s.data.length c1, .slice a2 s.snaps.length c2] 32)).alloc (.cells #[.int .i64 5, .int .i64 o, .int .i64 m, .slice a n c, .string T] 46)) = W := ⟨_, rfl⟩
  rw [hw1] at X2 X3 B3
  obtain ⟨nd, hnd⟩ : ∃ z, s.data.length = z := ⟨_, rfl⟩
  obtain ⟨ns, hns⟩ : ∃ z, s.snaps.length = z := ⟨_, rfl⟩
  rw [hnd] at X2 hw1 ⊢
  rw [hns] at X2 hw1 rs ⊢
  have HX2 := Lib.hid X2
  have HX3 := Lib.hid X3
  have HB3 := Lib.hid B3
  have HRS := Lib.hid (rs.later od_rel B3)
  have hndc : nd ≤ 9223372036854775807 := by have := rd.1; have := rd.2.1; unfold maxLen at this; omega
  have hnsc : ns ≤ 9223372036854775807 := by obtain ⟨_, h1, h2, _⟩ := rs.cap; unfold maxLen at h2; omega
  have HRE := Lib.hid (evrright_any o m a n c l T w1 5 (hr.later B3) hn hT)
  have HSP := Lib.hid (fun W (hb : Below w1.heap.size w1 W) => rspan_any 5 o m a n c l T W ((hr.later B3).later hb) hn hT)
  clear X2 X3 B3 rd rs hr hn h
  obtain ⟨x0, x1⟩ := HX2.out.c2
  obtain ⟨y0, y1, y2, y3, y4⟩ := HX3.out.c5
  go_enter Try.func50, Try.ntmps50
  go_upto_region 1 with fail
  try rw [hw1]
  clear hw1
  obtain ⟨X, hX⟩ : ∃ X, w.heap.size = X := ⟨_, rfl⟩
  simp only [hX] at HX2 HX3 x0 x1 y0 y1 y2 y3 y4 ⊢
  have HXS := Lib.hid hX
  clear hX
  go_wp2_with fail
  refine HRE.out.mono ?_
  rintro e w2 ⟨rfl, b2⟩
  have HB2 := Lib.hid (HB3.out.trans (b2.mono HB3.out.size))
  have HX22 := Lib.hid (HX2.out.later b2)
  have HX32 := Lib.hid (HX3.out.later b2)
  have HR2 := Lib.hid (HRS.out.later od_rel b2)
  have HSP2 := Lib.hid (HSP.out w2 b2)
  clear b2 x0 x1 y0 y1 y2 y3 y4 HSP HRE HRS
  obtain ⟨x0, x1⟩ := HX22.out.c2
  obtain ⟨y0, y1, y2, y3, y4⟩ := HX32.out.c5
  cases hR : Ev.right ⟨5, o, m, l, T.data.toList⟩ with
  | false =>
    have HF := Lib.hid (HCK.out.symm.trans (check_no hR))
    clear hR
    go_wp2_with fail
    go_ret
    rw [HF.out]
    exact ⟨rfl, HB2.out⟩
  | true =>
    have HF := Lib.hid (HCK.out.symm.trans (check_snap hR rfl))
    rw [hns] at HF
    have HFD := Lib.hid (rfind14_any (.slice a1 nd c1) a2 ns c2 s.snaps T J w2 rfl HR2.out hT)
    simp only at HF
    obtain ⟨F, hF⟩ : ∃ z, findO s.snaps T.data.toList = z := ⟨_, rfl⟩
    rw [hF] at HFD HF
    clear hR hF
    go_wp2_with fail
    refine HFD.out.mono ?_
    rintro e w3 ⟨rfl, b3⟩
    have HB4 := Lib.hid (HB2.out.trans (b3.mono HB2.out.size))
    obtain ⟨z0, z1⟩ := (HX22.out.later b3).c2
    clear b3 x0 x1 y0 y1 y2 y3 y4
    by_cases hlt : 0 ≤ F
    · rw [if_pos hlt] at HF
      have hd : decide (F ≥ 0) = true := decide_eq_true hlt
      go_wp2_with fail
      go_ret
      rw [HF.out]
      exact ⟨rfl, HB4.out⟩
    · rw [if_neg hlt] at HF
      have hd : decide (F ≥ 0) = false := decide_eq_false hlt
      by_cases h8 : 8 ≤ ns
      · rw [if_pos h8] at HF
        go_wp2_with fail
        go_ret
        rw [HF.out]
        exact ⟨rfl, HB4.out⟩
      · rw [if_neg h8] at HF
        go_wp2_with fail
        go_ret
        rw [HF.out]
        exact ⟨rfl, HB4.out⟩
set_option maxRecDepth 20000 in
set_option maxHeartbeats 3200000 in
theorem rcheck14_n6 (h : StA J w d v s) (hr : Row w a c l) (hn : l.length = n) (hT : T.size ≤ 9223372036854775807) :
    Calls Try.prog 50 #[.agg #[d, v], .agg #[.int .i64 6, .int .i64 o, .int .i64 m, .slice a n c, .string T]] w fun e w' => e = .returned (.int .i64 (checkM s ⟨6, o, m, l, T.data.toList⟩)) ∧ Below w.heap.size w w' := by
  obtain ⟨a1, c1, a2, c2, rfl, rfl, rd, rs⟩ := h.open
  obtain ⟨CK, hCK⟩ : ∃ z, checkM s ⟨6, o, m, l, T.data.toList⟩ = z := ⟨_, rfl⟩
  rw [hCK]
  have HCK := Lib.hid hCK
  clear hCK
  obtain ⟨X2, X3, B3⟩ := two_recsS w #[.slice a1 s.data.length c1, .slice a2 s.snaps.length c2] #[.int .i64 6, .int .i64 o, .int .i64 m, .slice a n c, .string T] 32 46
  obtain ⟨w1, hw1⟩ : ∃ W, ((w.alloc (.cells #[.slice a1 s.data.length c1, .slice a2 s.snaps.length c2] 32)).alloc (.cells #[.int .i64 6, .int .i64 o, .int .i64 m, .slice a n c, .string T] 46)) = W := ⟨_, rfl⟩
  rw [hw1] at X2 X3 B3
  obtain ⟨nd, hnd⟩ : ∃ z, s.data.length = z := ⟨_, rfl⟩
  obtain ⟨ns, hns⟩ : ∃ z, s.snaps.length = z := ⟨_, rfl⟩
  rw [hnd] at X2 hw1 ⊢
  rw [hns] at X2 hw1 rs ⊢
  have HX2 := Lib.hid X2
  have HX3 := Lib.hid X3
  have HB3 := Lib.hid B3
  have HRS := Lib.hid (rs.later od_rel B3)
  have hndc : nd ≤ 9223372036854775807 := by have := rd.1; have := rd.2.1; unfold maxLen at this; omega
  have hnsc : ns ≤ 9223372036854775807 := by obtain ⟨_, h1, h2, _⟩ := rs.cap; unfold maxLen at h2; omega
  have HRE := Lib.hid (evrright_any o m a n c l T w1 6 (hr.later B3) hn hT)
  have HSP := Lib.hid (fun W (hb : Below w1.heap.size w1 W) => rspan_any 6 o m a n c l T W ((hr.later B3).later hb) hn hT)
  clear X2 X3 B3 rd rs hr hn h
  obtain ⟨x0, x1⟩ := HX2.out.c2
  obtain ⟨y0, y1, y2, y3, y4⟩ := HX3.out.c5
  go_enter Try.func50, Try.ntmps50
  go_upto_region 1 with fail
  try rw [hw1]
  clear hw1
  obtain ⟨X, hX⟩ : ∃ X, w.heap.size = X := ⟨_, rfl⟩
  simp only [hX] at HX2 HX3 x0 x1 y0 y1 y2 y3 y4 ⊢
  have HXS := Lib.hid hX
  clear hX
  go_wp2_with fail
  refine HRE.out.mono ?_
  rintro e w2 ⟨rfl, b2⟩
  have HB2 := Lib.hid (HB3.out.trans (b2.mono HB3.out.size))
  have HX22 := Lib.hid (HX2.out.later b2)
  have HX32 := Lib.hid (HX3.out.later b2)
  have HR2 := Lib.hid (HRS.out.later od_rel b2)
  have HSP2 := Lib.hid (HSP.out w2 b2)
  clear b2 x0 x1 y0 y1 y2 y3 y4 HSP HRE HRS
  obtain ⟨x0, x1⟩ := HX22.out.c2
  obtain ⟨y0, y1, y2, y3, y4⟩ := HX32.out.c5
  cases hR : Ev.right ⟨6, o, m, l, T.data.toList⟩ with
  | false =>
    have HF := Lib.hid (HCK.out.symm.trans (check_no hR))
    clear hR
    go_wp2_with fail
    go_ret
    rw [HF.out]
    exact ⟨rfl, HB2.out⟩
  | true =>
    have HF := Lib.hid (HCK.out.symm.trans (check_name hR (by simp)))
    have HFD := Lib.hid (rfind14_any (.slice a1 nd c1) a2 ns c2 s.snaps T J w2 rfl HR2.out hT)
    simp only at HF
    obtain ⟨F, hF⟩ : ∃ z, findO s.snaps T.data.toList = z := ⟨_, rfl⟩
    rw [hF] at HFD HF
    clear hR hF
    go_wp2_with fail
    refine HFD.out.mono ?_
    rintro e w3 ⟨rfl, b3⟩
    have HB4 := Lib.hid (HB2.out.trans (b3.mono HB2.out.size))
    obtain ⟨z0, z1⟩ := (HX22.out.later b3).c2
    clear b3 x0 x1 y0 y1 y2 y3 y4
    by_cases hlt : 0 ≤ F
    · rw [if_pos hlt] at HF
      have hd : decide (F < 0) = false := decide_eq_false (by omega)
      go_wp2_with fail
      go_ret
      rw [HF.out]
      exact ⟨rfl, HB4.out⟩
    · rw [if_neg hlt] at HF
      have hd : decide (F < 0) = true := decide_eq_true (by omega)
      go_wp2_with fail
      go_ret
      rw [HF.out]
      exact ⟨rfl, HB4.out⟩
set_option maxRecDepth 20000 in
set_option maxHeartbeats 3200000 in
theorem rcheck14_n7 (h : StA J w d v s) (hr : Row w a c l) (hn : l.length = n) (hT : T.size ≤ 9223372036854775807) :
    Calls Try.prog 50 #[.agg #[d, v], .agg #[.int .i64 7, .int .i64 o, .int .i64 m, .slice a n c, .string T]] w fun e w' => e = .returned (.int .i64 (checkM s ⟨7, o, m, l, T.data.toList⟩)) ∧ Below w.heap.size w w' := by
  obtain ⟨a1, c1, a2, c2, rfl, rfl, rd, rs⟩ := h.open
  obtain ⟨CK, hCK⟩ : ∃ z, checkM s ⟨7, o, m, l, T.data.toList⟩ = z := ⟨_, rfl⟩
  rw [hCK]
  have HCK := Lib.hid hCK
  clear hCK
  obtain ⟨X2, X3, B3⟩ := two_recsS w #[.slice a1 s.data.length c1, .slice a2 s.snaps.length c2] #[.int .i64 7, .int .i64 o, .int .i64 m, .slice a n c, .string T] 32 46
  obtain ⟨w1, hw1⟩ : ∃ W, ((w.alloc (.cells #[.slice a1 s.data.length c1, .slice a2 s.snaps.length c2] 32)).alloc (.cells #[.int .i64 7, .int .i64 o, .int .i64 m, .slice a n c, .string T] 46)) = W := ⟨_, rfl⟩
  rw [hw1] at X2 X3 B3
  obtain ⟨nd, hnd⟩ : ∃ z, s.data.length = z := ⟨_, rfl⟩
  obtain ⟨ns, hns⟩ : ∃ z, s.snaps.length = z := ⟨_, rfl⟩
  rw [hnd] at X2 hw1 ⊢
  rw [hns] at X2 hw1 rs ⊢
  have HX2 := Lib.hid X2
  have HX3 := Lib.hid X3
  have HB3 := Lib.hid B3
  have HRS := Lib.hid (rs.later od_rel B3)
  have hndc : nd ≤ 9223372036854775807 := by have := rd.1; have := rd.2.1; unfold maxLen at this; omega
  have hnsc : ns ≤ 9223372036854775807 := by obtain ⟨_, h1, h2, _⟩ := rs.cap; unfold maxLen at h2; omega
  have HRE := Lib.hid (evrright_any o m a n c l T w1 7 (hr.later B3) hn hT)
  have HSP := Lib.hid (fun W (hb : Below w1.heap.size w1 W) => rspan_any 7 o m a n c l T W ((hr.later B3).later hb) hn hT)
  clear X2 X3 B3 rd rs hr hn h
  obtain ⟨x0, x1⟩ := HX2.out.c2
  obtain ⟨y0, y1, y2, y3, y4⟩ := HX3.out.c5
  go_enter Try.func50, Try.ntmps50
  go_upto_region 1 with fail
  try rw [hw1]
  clear hw1
  obtain ⟨X, hX⟩ : ∃ X, w.heap.size = X := ⟨_, rfl⟩
  simp only [hX] at HX2 HX3 x0 x1 y0 y1 y2 y3 y4 ⊢
  have HXS := Lib.hid hX
  clear hX
  go_wp2_with fail
  refine HRE.out.mono ?_
  rintro e w2 ⟨rfl, b2⟩
  have HB2 := Lib.hid (HB3.out.trans (b2.mono HB3.out.size))
  have HX22 := Lib.hid (HX2.out.later b2)
  have HX32 := Lib.hid (HX3.out.later b2)
  have HR2 := Lib.hid (HRS.out.later od_rel b2)
  have HSP2 := Lib.hid (HSP.out w2 b2)
  clear b2 x0 x1 y0 y1 y2 y3 y4 HSP HRE HRS
  obtain ⟨x0, x1⟩ := HX22.out.c2
  obtain ⟨y0, y1, y2, y3, y4⟩ := HX32.out.c5
  cases hR : Ev.right ⟨7, o, m, l, T.data.toList⟩ with
  | false =>
    have HF := Lib.hid (HCK.out.symm.trans (check_no hR))
    clear hR
    go_wp2_with fail
    go_ret
    rw [HF.out]
    exact ⟨rfl, HB2.out⟩
  | true =>
    have HF := Lib.hid (HCK.out.symm.trans (check_name hR (by simp)))
    have HFD := Lib.hid (rfind14_any (.slice a1 nd c1) a2 ns c2 s.snaps T J w2 rfl HR2.out hT)
    simp only at HF
    obtain ⟨F, hF⟩ : ∃ z, findO s.snaps T.data.toList = z := ⟨_, rfl⟩
    rw [hF] at HFD HF
    clear hR hF
    go_wp2_with fail
    refine HFD.out.mono ?_
    rintro e w3 ⟨rfl, b3⟩
    have HB4 := Lib.hid (HB2.out.trans (b3.mono HB2.out.size))
    obtain ⟨z0, z1⟩ := (HX22.out.later b3).c2
    clear b3 x0 x1 y0 y1 y2 y3 y4
    by_cases hlt : 0 ≤ F
    · rw [if_pos hlt] at HF
      have hd : decide (F < 0) = false := decide_eq_false (by omega)
      go_wp2_with fail
      go_ret
      rw [HF.out]
      exact ⟨rfl, HB4.out⟩
    · rw [if_neg hlt] at HF
      have hd : decide (F < 0) = true := decide_eq_true (by omega)
      go_wp2_with fail
      go_ret
      rw [HF.out]
      exact ⟨rfl, HB4.out⟩
set_option maxRecDepth 20000 in
set_option maxHeartbeats 3200000 in
theorem rcheck14_r8 (h : StA J w d v s) (hr : Row w a c l) (hn : l.length = n) (hT : T.size ≤ 9223372036854775807) :
    Calls Try.prog 50 #[.agg #[d, v], .agg #[.int .i64 8, .int .i64 o, .int .i64 m, .slice a n c, .string T]] w fun e w' => e = .returned (.int .i64 (checkM s ⟨8, o, m, l, T.data.toList⟩)) ∧ Below w.heap.size w w' := by
  obtain ⟨a1, c1, a2, c2, rfl, rfl, rd, rs⟩ := h.open
  obtain ⟨CK, hCK⟩ : ∃ z, checkM s ⟨8, o, m, l, T.data.toList⟩ = z := ⟨_, rfl⟩
  rw [hCK]
  have HCK := Lib.hid hCK
  clear hCK
  obtain ⟨X2, X3, B3⟩ := two_recsS w #[.slice a1 s.data.length c1, .slice a2 s.snaps.length c2] #[.int .i64 8, .int .i64 o, .int .i64 m, .slice a n c, .string T] 32 46
  obtain ⟨w1, hw1⟩ : ∃ W, ((w.alloc (.cells #[.slice a1 s.data.length c1, .slice a2 s.snaps.length c2] 32)).alloc (.cells #[.int .i64 8, .int .i64 o, .int .i64 m, .slice a n c, .string T] 46)) = W := ⟨_, rfl⟩
  rw [hw1] at X2 X3 B3
  obtain ⟨nd, hnd⟩ : ∃ z, s.data.length = z := ⟨_, rfl⟩
  obtain ⟨ns, hns⟩ : ∃ z, s.snaps.length = z := ⟨_, rfl⟩
  rw [hnd] at X2 hw1 ⊢
  rw [hns] at X2 hw1 rs ⊢
  have HX2 := Lib.hid X2
  have HX3 := Lib.hid X3
  have HB3 := Lib.hid B3
  have HRS := Lib.hid (rs.later od_rel B3)
  have hndc : nd ≤ 9223372036854775807 := by have := rd.1; have := rd.2.1; unfold maxLen at this; omega
  have hnsc : ns ≤ 9223372036854775807 := by obtain ⟨_, h1, h2, _⟩ := rs.cap; unfold maxLen at h2; omega
  have HRE := Lib.hid (evrright_any o m a n c l T w1 8 (hr.later B3) hn hT)
  have HSP := Lib.hid (fun W (hb : Below w1.heap.size w1 W) => rspan_any 8 o m a n c l T W ((hr.later B3).later hb) hn hT)
  clear X2 X3 B3 rd rs hr hn h
  obtain ⟨x0, x1⟩ := HX2.out.c2
  obtain ⟨y0, y1, y2, y3, y4⟩ := HX3.out.c5
  go_enter Try.func50, Try.ntmps50
  go_upto_region 1 with fail
  try rw [hw1]
  clear hw1
  obtain ⟨X, hX⟩ : ∃ X, w.heap.size = X := ⟨_, rfl⟩
  simp only [hX] at HX2 HX3 x0 x1 y0 y1 y2 y3 y4 ⊢
  have HXS := Lib.hid hX
  clear hX
  go_wp2_with fail
  refine HRE.out.mono ?_
  rintro e w2 ⟨rfl, b2⟩
  have HB2 := Lib.hid (HB3.out.trans (b2.mono HB3.out.size))
  have HX22 := Lib.hid (HX2.out.later b2)
  have HX32 := Lib.hid (HX3.out.later b2)
  have HR2 := Lib.hid (HRS.out.later od_rel b2)
  have HSP2 := Lib.hid (HSP.out w2 b2)
  clear b2 x0 x1 y0 y1 y2 y3 y4 HSP HRE HRS
  obtain ⟨x0, x1⟩ := HX22.out.c2
  obtain ⟨y0, y1, y2, y3, y4⟩ := HX32.out.c5
  cases hR : Ev.right ⟨8, o, m, l, T.data.toList⟩ with
  | false =>
    have HF := Lib.hid (HCK.out.symm.trans (check_no hR))
    clear hR
    go_wp2_with fail
    go_ret
    rw [HF.out]
    exact ⟨rfl, HB2.out⟩
  | true =>
    have HF := Lib.hid (HCK.out.symm.trans (check_rest hR (by simp)))
    clear hR
    go_wp2_with fail
    go_ret
    rw [HF.out]
    exact ⟨rfl, HB2.out⟩
set_option maxRecDepth 20000 in
set_option maxHeartbeats 3200000 in
theorem rcheck14_x (k : Int) (hk : k < 1 ∨ 8 < k) (h : StA J w d v s) (hr : Row w a c l) (hn : l.length = n) (hT : T.size ≤ 9223372036854775807) :
    Calls Try.prog 50 #[.agg #[d, v], .agg #[.int .i64 k, .int .i64 o, .int .i64 m, .slice a n c, .string T]] w fun e w' => e = .returned (.int .i64 (checkM s ⟨k, o, m, l, T.data.toList⟩)) ∧ Below w.heap.size w w' := by
  obtain ⟨a1, c1, a2, c2, rfl, rfl, rd, rs⟩ := h.open
  obtain ⟨CK, hCK⟩ : ∃ z, checkM s ⟨k, o, m, l, T.data.toList⟩ = z := ⟨_, rfl⟩
  rw [hCK]
  have HCK := Lib.hid hCK
  clear hCK
  obtain ⟨X2, X3, B3⟩ := two_recsS w #[.slice a1 s.data.length c1, .slice a2 s.snaps.length c2] #[.int .i64 k, .int .i64 o, .int .i64 m, .slice a n c, .string T] 32 46
  obtain ⟨w1, hw1⟩ : ∃ W, ((w.alloc (.cells #[.slice a1 s.data.length c1, .slice a2 s.snaps.length c2] 32)).alloc (.cells #[.int .i64 k, .int .i64 o, .int .i64 m, .slice a n c, .string T] 46)) = W := ⟨_, rfl⟩
  rw [hw1] at X2 X3 B3
  obtain ⟨nd, hnd⟩ : ∃ z, s.data.length = z := ⟨_, rfl⟩
  obtain ⟨ns, hns⟩ : ∃ z, s.snaps.length = z := ⟨_, rfl⟩
  rw [hnd] at X2 hw1 ⊢
  rw [hns] at X2 hw1 rs ⊢
  have HX2 := Lib.hid X2
  have HX3 := Lib.hid X3
  have HB3 := Lib.hid B3
  have HRS := Lib.hid (rs.later od_rel B3)
  have hndc : nd ≤ 9223372036854775807 := by have := rd.1; have := rd.2.1; unfold maxLen at this; omega
  have hnsc : ns ≤ 9223372036854775807 := by obtain ⟨_, h1, h2, _⟩ := rs.cap; unfold maxLen at h2; omega
  have HRE := Lib.hid (evrright_any o m a n c l T w1 k (hr.later B3) hn hT)
  have HSP := Lib.hid (fun W (hb : Below w1.heap.size w1 W) => rspan_any k o m a n c l T W ((hr.later B3).later hb) hn hT)
  clear X2 X3 B3 rd rs hr hn h
  obtain ⟨x0, x1⟩ := HX2.out.c2
  obtain ⟨y0, y1, y2, y3, y4⟩ := HX3.out.c5
  go_enter Try.func50, Try.ntmps50
  go_upto_region 1 with fail
  try rw [hw1]
  clear hw1
  obtain ⟨X, hX⟩ : ∃ X, w.heap.size = X := ⟨_, rfl⟩
  simp only [hX] at HX2 HX3 x0 x1 y0 y1 y2 y3 y4 ⊢
  have HXS := Lib.hid hX
  clear hX
  go_wp2_with fail
  refine HRE.out.mono ?_
  rintro e w2 ⟨rfl, b2⟩
  have HB2 := Lib.hid (HB3.out.trans (b2.mono HB3.out.size))
  have HX22 := Lib.hid (HX2.out.later b2)
  have HX32 := Lib.hid (HX3.out.later b2)
  have HR2 := Lib.hid (HRS.out.later od_rel b2)
  have HSP2 := Lib.hid (HSP.out w2 b2)
  clear b2 x0 x1 y0 y1 y2 y3 y4 HSP HRE HRS
  obtain ⟨x0, x1⟩ := HX22.out.c2
  obtain ⟨y0, y1, y2, y3, y4⟩ := HX32.out.c5
  cases hR : Ev.right ⟨k, o, m, l, T.data.toList⟩ with
  | false =>
    have HF := Lib.hid (HCK.out.symm.trans (check_no hR))
    clear hR
    go_wp2_with fail
    go_ret
    rw [HF.out]
    exact ⟨rfl, HB2.out⟩
  | true =>
    have := right_kind hR
    exfalso
    simp only at this
    omega
theorem rcheck14_any (k : Int) (h : StA J w d v s) (hr : Row w a c l) (hn : l.length = n) (hT : T.size ≤ 9223372036854775807) :
    Calls Try.prog 50 #[.agg #[d, v], .agg #[.int .i64 k, .int .i64 o, .int .i64 m, .slice a n c, .string T]] w fun e w' => e = .returned (.int .i64 (checkM s ⟨k, o, m, l, T.data.toList⟩)) ∧ Below w.heap.size w w' := by
  rcases (show k = 1 ∨ k = 2 ∨ k = 3 ∨ k = 4 ∨ k = 5 ∨ k = 6 ∨ k = 7 ∨ k = 8 ∨ (k < 1 ∨ 8 < k) by omega) with rfl | rfl | rfl | rfl | rfl | rfl | rfl | rfl | hk
  · exact rcheck14_p1 d v s o m a n c l T J w h hr hn hT
  · exact rcheck14_p2 d v s o m a n c l T J w h hr hn hT
  · exact rcheck14_p3 d v s o m a n c l T J w h hr hn hT
  · exact rcheck14_r4 d v s o m a n c l T J w h hr hn hT
  · exact rcheck14_s5 d v s o m a n c l T J w h hr hn hT
  · exact rcheck14_n6 d v s o m a n c l T J w h hr hn hT
  · exact rcheck14_n7 d v s o m a n c l T J w h hr hn hT
  · exact rcheck14_r8 d v s o m a n c l T J w h hr hn hT
  · exact rcheck14_x d v s o m a n c l T J w k hk h hr hn hT
end
end Go.Proofs.Ytbpddcmehjgleaa
namespace Go.Proofs.Ytbpddcmehjgleaa
open Go.RowKit Go.Proofs
set_option linter.unusedVariables false
set_option linter.unusedSimpArgs false
set_option linter.unnecessarySimpa false

theorem Own.nil' {W0 w : World} (h : Below W0.heap.size W0 w) : Own W0 w (.slice none 0 0) [] := (Own.nil w).back h
def readL (b : List UInt8) (off n : Int) : List UInt8 × Int := if n < 0 then ([], 1) else if off < 0 ∨ (b.length : Int) < off ∨ (b.length : Int) - off < n then ([], 3) else ((b.drop off.toNat).take n.toNat, 0)
theorem readM_now {s : Sx} {off n : Int} : readM s [] off n = readL s.data off n := by unfold readM readL; rw [if_pos rfl]
theorem readM_none {s : Sx} {nm : List UInt8} {off n : Int} (h0 : nm ≠ []) (h : findO s.snaps nm < 0) : readM s nm off n = ([], 4) := by
  have hl : lookO s.snaps nm = none := by
    refine placeO_none.1 ?_
    unfold findO at h
    cases hp : placeO s.snaps nm with
    | none => rfl
    | some k => rw [hp] at h; simp only at h; omega
  unfold readM; rw [if_neg h0, hl]; rfl
theorem readM_old {s : Sx} {nm : List UInt8} {off n : Int} {k : Nat} (h0 : nm ≠ []) (h : findO s.snaps nm = (k : Int)) : ∃ o, s.snaps[k]? = some o ∧ readM s nm off n = readL o.data off n := by
  unfold findO at h
  cases hp : placeO s.snaps nm with
  | none => rw [hp] at h; simp only at h; omega
  | some j =>
    rw [hp] at h
    simp only at h
    obtain ⟨o, ho, hl, _⟩ := placeO_look hp
    refine ⟨o, by rw [← show j = k by omega]; exact ho, ?_⟩
    unfold readM readL; rw [if_neg h0, hl]; rfl

end Go.Proofs.Ytbpddcmehjgleaa
