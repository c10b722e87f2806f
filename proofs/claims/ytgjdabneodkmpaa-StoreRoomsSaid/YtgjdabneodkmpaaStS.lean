/- Slices of keys sorted: 'slices.SortFunc', 'slices.SortedFunc'. -/
import Derived.Test.YtgjdabneodkmpaaStR
namespace Go.Proofs.Ytgjdabneodkmpaa
open Go.RowKit Go.Proofs Go.Shelf Go.Sort
set_option linter.unusedVariables false

instance : Inhabited K4 := ⟨⟨0, 0, 0, 0⟩⟩
def ltK (x y : K4) : Prop := x.a < y.a ∨ (x.a = y.a ∧ (x.b < y.b ∨ (x.b = y.b ∧ (x.c < y.c ∨ (x.c = y.c ∧ x.d < y.d)))))
theorem compareInt_cases (x y : Int) : (x < y ∧ Lib.compareInt x y = -1) ∨ (x = y ∧ Lib.compareInt x y = 0) ∨ (y < x ∧ Lib.compareInt x y = 1) := by
  unfold Lib.compareInt
  rcases Int.lt_trichotomy x y with h | h | h
  · exact .inl ⟨h, by simp [h]⟩
  · subst h; exact .inr (.inl ⟨rfl, by simp⟩)
  · have : ¬ x < y := by omega
    exact .inr (.inr ⟨h, by simp [this, h]⟩)
theorem cmpK_lt (x y : K4) : cmpK x y < 0 ↔ ltK x y := by
  unfold cmpK orI ltK
  rcases compareInt_cases x.a y.a with ⟨h, e⟩ | ⟨h, e⟩ | ⟨h, e⟩ <;> rw [e]
  · simp [h]
  · rcases compareInt_cases x.b y.b with ⟨h2, e2⟩ | ⟨h2, e2⟩ | ⟨h2, e2⟩ <;> rw [e2]
    · simp [h, h2]
    · rcases compareInt_cases x.c y.c with ⟨h3, e3⟩ | ⟨h3, e3⟩ | ⟨h3, e3⟩ <;> rw [e3]
      · simp [h, h2, h3]
      · rcases compareInt_cases x.d y.d with ⟨h4, e4⟩ | ⟨h4, e4⟩ | ⟨h4, e4⟩ <;> rw [e4] <;> simp [h, h2, h3, h4] <;> omega
      · simp [h, h2]; omega
    · simp [h]; omega
  · simp; omega
theorem ltOf_cmpK (x y : K4) : ltOf cmpK x y = true ↔ ltK x y := by simp [ltOf, cmpK_lt]
theorem ltOf_cmpK_f (x y : K4) : ltOf cmpK x y = false ↔ ¬ ltK x y := by rw [← ltOf_cmpK]; simp
theorem swoK : SWO (ltOf cmpK) where
  irrefl x := by rw [ltOf_cmpK_f]; unfold ltK; omega
  trans x y z h1 h2 := by rw [ltOf_cmpK] at *; unfold ltK at *; omega
  ntrans x y z h1 h2 := by rw [ltOf_cmpK_f] at *; unfold ltK at *; omega
theorem ltK_anti {x y : K4} (h1 : ¬ ltK x y) (h2 : ¬ ltK y x) : x = y := by
  cases x; cases y
  unfold ltK at h1 h2
  simp only at h1 h2
  have : ∀ (a b : Int), ¬ a < b → ¬ b < a → a = b := fun a b _ _ => by omega
  simp only [K4.mk.injEq]
  omega
def leK (x y : K4) : Bool := !ltOf cmpK y x
def sortK (l : List K4) : List K4 := l.mergeSort leK
theorem leK_trans (a b c : K4) (h1 : leK a b = true) (h2 : leK b c = true) : leK a c = true := by
  simp only [leK, Bool.not_eq_true', ltOf_cmpK_f] at *; unfold ltK at *; omega
theorem leK_total (a b : K4) : (leK a b || leK b a) = true := by
  simp only [leK, Bool.or_eq_true, Bool.not_eq_true', ltOf_cmpK_f]; unfold ltK; omega
theorem sortK_eq {l l' : List K4} (h : l'.Perm l) (hs : l'.Pairwise fun a b => leK a b = true) : l' = sortK l := by
  refine List.Perm.eq_of_pairwise (le := fun a b => leK a b = true) (fun a b _ _ h1 h2 => ?_) hs (List.pairwise_mergeSort leK_trans leK_total l) (h.trans (List.mergeSort_perm l leK).symm)
  simp only [leK, Bool.not_eq_true', ltOf_cmpK_f] at h1 h2
  exact ltK_anti h2 h1
theorem sortK_perm {l l' : List K4} (h : l.Perm l') : sortK l = sortK l' := by
  refine sortK_eq ((List.mergeSort_perm l leK).trans h) (List.pairwise_mergeSort leK_trans leK_total l)

theorem isAgg_key : ∀ w, (isAgg 27).run Try.prog w = .ok true w := fun w => by kernel_rfl
theorem sizeOf_key : ∀ w, (Go.sizeOf 27).run Try.prog w = .ok 4 w := fun w => by kernel_rfl
theorem kcells_one (x : K4) : ∀ v ∈ kcells x, v.oneCell' = true := fun v hv => by
  simp only [kcells, List.mem_cons, List.not_mem_nil, or_false] at hv
  rcases hv with rfl | rfl | rfl | rfl <;> rfl

/-- A row of keys, from the head of block blk on. -/
def KRow (w : World) (blk : Nat) (d : List K4) : Prop := ∀ (i : Nat) (k : K4), d[i]? = some k → ∀ j : Nat, j < 4 → w.cell? ⟨blk, i * 4 + j, none⟩ = some ((kcells k)[j]!)
theorem flatMap_get : ∀ (l : List K4) (i r : Nat), r < 4 → (l.flatMap kcells)[i * 4 + r]? = (l[i]?).bind fun k => (kcells k)[r]?
  | [], i, r, _ => by simp
  | x :: l, 0, r, h => by
    rw [List.flatMap_cons, List.getElem?_append_left (by simp [kcells]; omega)]
    simp
  | x :: l, i + 1, r, h => by
    rw [List.flatMap_cons, List.getElem?_append_right (by simp [kcells]; omega)]
    have e : (i + 1) * 4 + r - (kcells x).length = i * 4 + r := by simp [kcells]; omega
    rw [e, flatMap_get l i r h]
    simp
theorem kcells_get (k : K4) (r : Nat) (h : r < 4) : (kcells k)[r]? = some ((kcells k)[r]!) := by
  rw [List.getElem?_eq_getElem (by simpa [kcells] using h)]
  rw [getElem!_pos (kcells k) r (by simpa [kcells] using h)]
theorem holds_of_cells {w : World} {blk : Nat} {d : Array K4} {cur : Array Value} {t : TypeId} (h : w.heap[blk]? = some (.cells cur t (0, 0))) (hc : cur.toList.take (d.size * 4) = d.toList.flatMap kcells) : HoldsK kcells 4 w blk 0 d := by
  intro j hj
  rw [size_flatK] at hj
  refine ⟨?_, frozen_of_block h _⟩
  rw [get_flatK _ _ _ _ hj]
  have hdj : j / 4 < d.size := by omega
  have hr : j % 4 < 4 := Nat.mod_lt _ (by omega)
  have h1 : (cur.toList.take (d.size * 4))[j]? = some ((kcells d[j / 4]!)[j % 4]!) := by
    rw [hc]
    have e : j = j / 4 * 4 + j % 4 := by omega
    rw [e, flatMap_get _ _ _ hr]
    have e2 : (j / 4 * 4 + j % 4) / 4 = j / 4 := by omega
    have e3 : (j / 4 * 4 + j % 4) % 4 = j % 4 := by omega
    rw [e2, e3]
    have e4 : d.toList[j / 4]? = some (d[j / 4]!) := by
      rw [Array.getElem?_toList, Array.getElem?_eq_getElem hdj, getElem!_pos d (j / 4) hdj]
    rw [e4]
    exact kcells_get _ _ hr
  rw [List.getElem?_take, if_pos hj] at h1
  exact cell_of_block h (by simpa using h1)
theorem HoldsK.krow {w : World} {blk : Nat} {d : Array K4} (h : HoldsK kcells 4 w blk 0 d) : KRow w blk d.toList := by
  intro i k hk j hj
  have hi : i < d.size := by simpa using (List.getElem?_eq_some_iff.1 hk).1
  have h1 := (h (i * 4 + j) (by rw [size_flatK]; omega)).1
  rw [get_flatK _ _ _ _ (by omega)] at h1
  have e2 : (i * 4 + j) / 4 = i := by omega
  have e3 : (i * 4 + j) % 4 = j := by omega
  rw [e2, e3] at h1
  have e4 : d[i]! = k := by
    rw [Array.getElem?_toList, Array.getElem?_eq_getElem hi] at hk
    rw [getElem!_pos d i hi]
    exact Option.some.inj hk
  rw [e4] at h1
  simpa using h1

theorem cmpLays_key (blk off size : Nat) (w : World) : CmpLays Try.prog 40 #[] kcells 4 cmpK blk off size w := fun m os dk _ x y => by
  refine (rising_any x y (sortWorldK kcells 4 w blk off m dk os)).mono ?_
  rintro e w' ⟨he, hg⟩
  exact ⟨he, hg⟩
set_option maxHeartbeats 1000000 in
theorem sortFunc_any (w : World) (blk cap : Nat) (d : List K4) (hh : HoldsK kcells 4 w blk 0 d.toArray) (hblk : blk < w.heap.size) (hn : d.length ≤ 1000000) :
    Calls Try.prog 58 #[.slice (some ⟨blk, 0, none⟩) d.length cap, .func (.func 40) #[] #[]] w fun e w' =>
      e = .returned (.tuple #[]) ∧ KRow w' blk (sortK d) ∧ (∀ b, b < w.heap.size → b ≠ blk → w'.heap[b]? = w.heap[b]?) ∧ w'.os = w.os ∧ w'.tape = w.tape ∧ w'.output = w.output ∧ w.heap.size ≤ w'.heap.size := by
  have eg : ∀ args w, (callFunc 40 args).run Try.prog w = .ok (.enter 40 args) w := enters_of Try.func40 (by kernel_rfl) rfl
  have hcon := AnyQ.slices_SortFunc Try.sortKeys 4 isAgg_key sizeOf_key kcells (fun _ => rfl) kcells_one cmpK swoK 40 #[] blk 0 cap d.toArray w eg (cmpLays_key blk 0 d.toArray.size w) hh hblk (by simp; omega)
  change Calls Try.prog 58 _ _ _ at hcon
  have e : d.toArray.size = d.length := by simp
  rw [e] at hcon
  refine hcon.mono ?_
  rintro e' w' ⟨rfl, d', q, os, hp, hs, rfl⟩
  have hds : d'.size = d.length := by rw [hp.1]; simp
  have hperm : d'.toList.Perm d := by
    have := hp.2.2
    rw [show d'.extract 0 d.length = d' by rw [← hds]; simp, show d.toArray.extract 0 d.length = d.toArray by simp] at this
    simpa using this
  have hsort : d'.toList = sortK d := by
    refine sortK_eq hperm ?_
    refine List.pairwise_iff_getElem.2 fun i j hi hj hij => ?_
    have hi2 : i < d'.size := by simpa using hi
    have hj2 : j < d'.size := by simpa using hj
    have := hs i j (Nat.zero_le _) hij (by omega)
    rw [getElem!_pos d' i hi2, getElem!_pos d' j hj2] at this
    simp only [leK, Array.getElem_toList, this, Bool.not_false]
  have hold : ∀ b, b < w.heap.size → (sortWorldK kcells 4 w blk 0 q d' os).heap[b]? = (putRowK kcells 4 (Sort.ahead w q) blk 0 d').heap[b]? := fun b hb => heap_grow_old _ _ (by simp [putRowK]; exact hb)
  refine ⟨rfl, ?_, ?_, rfl, rfl, rfl, ?_⟩
  · rw [← hsort]
    refine HoldsK.krow ?_
    have h1 : HoldsK kcells 4 (putRowK kcells 4 (Sort.ahead w q) blk 0 d') blk 0 d' := holds_putRow id (Sort.ahead w q) blk 0 (flatK kcells 4 d.toArray) (flatK kcells 4 d') hh (by simp [hds])
    intro j hj
    have h2 := h1 j hj
    have e1 : (sortWorldK kcells 4 w blk 0 q d' os).cell? ⟨blk, 0 + j, none⟩ = (putRowK kcells 4 (Sort.ahead w q) blk 0 d').cell? ⟨blk, 0 + j, none⟩ := World.cell?_of_block (hold blk hblk)
    have e2 : (sortWorldK kcells 4 w blk 0 q d' os).frozen? ⟨blk, 0 + j, none⟩ = (putRowK kcells 4 (Sort.ahead w q) blk 0 d').frozen? ⟨blk, 0 + j, none⟩ := World.frozen?_of_block (hold blk hblk)
    rw [e1, e2]; exact h2
  · intro b hb hne
    rw [hold b hb]
    have : blk ≠ b := fun e => hne e.symm
    simp [putRowK, putRow, Go.Sort.mapBlock, Sort.ahead, Array.getElem?_modify, this]
  · simp [sortWorldK, grow, putRowK, Sort.ahead]

set_option maxRecDepth 20000 in
/-- 'slices.SortedFunc(maps.Keys(m), rising)', m a map of at least one key. -/
theorem sortedKeys_any (w : World) (Bm b nn : Nat) (D0 : DataW Value) (pm : K4 → Option Nat) (hD : PD D0 pm nn) (hN : nn ≤ 1000000) (hBm : Bm < w.heap.size) (hm : w.cell? ⟨Bm, 0, none⟩ = some (.map (some b))) (hown : w.ownsMap Try.prog 27 ptrE b nn D0) (ks : List K4) (hks : KeysAre pm ks) (hne : ks ≠ []) (hkl : ks.length ≤ 1000000) :
    Calls Try.prog 38 #[.func (.func 64) #[] #[.pointer (some ⟨Bm, 0, none⟩)], .func (.func 40) #[] #[]] w fun e w' =>
      ∃ blk cap, e = .returned (.slice (some ⟨blk, 0, none⟩) ks.length cap) ∧ KRow w' blk (sortK ks) ∧ RowKit.Below w.heap.size w w' ∧ w.heap.size ≤ blk := by
  have HC := Lib.hid (collect_any w Bm b nn D0 pm hD hN hBm hm hown)
  have HK := Lib.hid hks
  clear hD hm hown hks
  go_enter Try.func38, Try.ntmps38
  go_wp2_with fail
  refine HC.out.mono ?_
  rintro e w1 ⟨v, ss, rfl, hss, hrow, hb⟩
  have hperm : ss.Perm ks := (List.perm_ext_iff_of_nodup hss.1 HK.out.1).2 fun k => by rw [hss.2, HK.out.2]
  have hlen : ss.length = ks.length := hperm.length_eq
  have hpos : 0 < ks.length := List.length_pos_iff.2 hne
  rcases hrow.2 with ⟨_, h0⟩ | ⟨blk, cap, cur, rfl, hbase, hcur, hnc, hcm, hcs, htake⟩
  · omega
  have hh : HoldsK kcells 4 w1 blk 0 ss.toArray := holds_of_cells hcur (by simpa using htake)
  have hblk : blk < w1.heap.size := (Array.getElem?_eq_some_iff.1 hcur).1
  have HS := Lib.hid (sortFunc_any w1 blk cap ss hh hblk (by omega))
  have HB := Lib.hid hb
  have HP := Lib.hid hperm
  obtain ⟨n, hn⟩ : ∃ n, ss.length = n := ⟨_, rfl⟩
  rw [hn] at HS hlen ⊢
  have HLEN := Lib.hid hlen
  clear HC hb hss hrow hcur htake hh hcs hn hlen hperm hne
  have HR : Hid (∀ w2, KRow w2 blk (sortK ss) → (∀ b, b < w1.heap.size → b ≠ blk → w2.heap[b]? = w1.heap[b]?) → w2.os = w1.os → w2.tape = w1.tape → w2.output = w1.output → w1.heap.size ≤ w2.heap.size → KRow w2 blk (sortK ks) ∧ RowKit.Below w.heap.size w w2) := Lib.hid fun w2 hk2 hf2 ho2 ht2 hp2 hs2 => ⟨by rw [← sortK_perm HP.out]; exact hk2, by
    obtain ⟨b1, b2, b3, b4, b5⟩ := HB.out
    exact ⟨ho2.trans b1, ht2.trans b2, hp2.trans b3, Nat.le_trans b4 hs2, fun k hk => (hf2 k (by omega) (by omega)).trans (b5 k hk)⟩⟩
  go_wp2_with fail
  refine HS.out.mono ?_
  rintro e w2 ⟨rfl, hk2, hf2, ho2, ht2, hp2, hs2⟩
  have HQ := Lib.hid (HR.out w2 hk2 hf2 ho2 ht2 hp2 hs2)
  clear HS HR hk2 hf2 ho2 ht2 hp2 hs2
  go_wp2_with fail
  rw [← HLEN.out]
  go_ret
  have hq := HQ.out
  generalize sortK ks = sk at hq ⊢
  exact ⟨blk, cap, rfl, hq.1, hq.2, hbase⟩
end Go.Proofs.Ytgjdabneodkmpaa
