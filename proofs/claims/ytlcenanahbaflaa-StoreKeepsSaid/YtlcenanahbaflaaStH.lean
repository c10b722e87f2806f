/- A Fall of a store without wet deeds; 'slices.SortedFunc(maps.Keys(nil), rising)'. -/
import Derived.Test.YtlcenanahbaflaaStV
namespace Go.Proofs.Ytlcenanahbaflaa
open Go.RowKit Go.Maps Go.Sort
set_option linter.unusedVariables false

set_option maxRecDepth 100000 in
set_option maxHeartbeats 1000000 in
theorem keys1nil_in (F : Fence) (n : Nat) (h64 : F.fn 64) (hro : F.round = none) (l Bm : Nat) (J : List K4 → World → Prop) (W : World) (hJ : AbidesFrom W.heap.size J)
    (hm : W.cell? ⟨Bm, 0, none⟩ = some (.map none)) (h0 : J [] W) :
    CallsIn F n Try.prog 64 #[.func (.yield l) #[] #[], .pointer (some ⟨Bm, 0, none⟩)] W fun e W' => (∃ v, e = .returned v) ∧ ∃ ss : List K4, ss = [] ∧ J ss W' := by
  refine callsIn_of_wp Try.func64 rfl h64 ?_ hro
  simp only [Try.ntmps64, List.size_toArray, List.length_cons, List.length_nil, Nat.reduceAdd, Nat.reduceSub, Array.replicate_succ, Array.replicate_zero, List.push_toArray, List.append_toArray, List.nil_append, List.cons_append]
  have hrg := run_range_nilMap (P := Try.prog) W 62 _ _ Try.underlying62
  have hnx : ∀ ty, (Instr.next (.pointer (some ⟨W.heap.size, 0, none⟩)) false ty).run Try.prog (W.alloc (.mapIter none 0 #[] 0)) = _ := fun ty => run_next_nilMap _ ty 0 0 #[]
  gi_wp2
  refine wpIn_loop_rounds 1 ?_
  rw [roundsIn_succ]
  gi_wp2
  go_end0
  exact ⟨⟨_, rfl⟩, [], rfl, hJ [] W _ none h0 (World.grownBy_alloc W _ none) (fun r e => by cases e)⟩
theorem keysnil_gives (F : Fence) (n : Nat) (h64 : F.fn 64) (hro : F.round = none) (Bm : Nat) (w : World) (hBm : Bm < w.heap.size) (hm : w.cell? ⟨Bm, 0, none⟩ = some (.map none)) :
    SeqGives F n Try.prog 64 #[.pointer (some ⟨Bm, 0, none⟩)] kv (fun ss : List K4 => ss = []) 0 w := fun l J W hW hJ _ h0 =>
  keys1nil_in F n h64 hro l Bm J W hJ ((hW.cell (p := ⟨Bm, 0, none⟩) hBm).trans hm) h0
theorem collectnil_any (w : World) (Bm : Nat) (hBm : Bm < w.heap.size) (hm : w.cell? ⟨Bm, 0, none⟩ = some (.map none)) :
    Calls Try.prog 63 #[.func (.func 64) #[] #[.pointer (some ⟨Bm, 0, none⟩)]] w fun e w' =>
      ∃ v : Value, e = .returned v ∧ w'.ownsRow w.heap.size 27 4 v 0 [] ∧ RowKit.Below w.heap.size w w' := by
  have eg : ∀ args w, (callFunc 64 args).run Try.prog w = .ok (.enter 64 args) w := enters_of Try.func64 (by kernel_rfl) rfl
  have h := calls_of_every_depth (P := Try.prog) (f := 63) (L := [63, 85, 64]) (n := 5) fun D =>
    collect_in _ 5 (by simp [Fence.list]) (by simp [Fence.list]) rfl (by omega) _ _ (by simp [Fence.list]) eg (fun ss => ss = []) 0 (by omega) w (keysnil_gives _ 3 (by simp [Fence.list]) rfl Bm w hBm hm)
  refine h.mono ?_
  rintro e w' ⟨v, ss, rfl, rfl, hrow, hb⟩
  exact ⟨v, rfl, hrow, hb⟩
set_option maxRecDepth 20000 in
set_option maxHeartbeats 1000000 in
/-- Nothing is sorted. -/
theorem sortNone_any (w : World) (f : Value) : Calls Try.prog 58 #[.slice none 0 0, f] w fun e w' => e = .returned (.tuple #[]) ∧ w = w' := by
  go_enter Try.func58, Try.ntmps58
  go_wp2_with go_in
  refine wp_loop_rounds 1 ?_
  rw [rounds_succ]
  go_wp2_with go_in
  refine wp_loop_rounds 1 ?_
  rw [rounds_succ]
  go_wp2_with go_in
  go_end0
  exact ⟨rfl, rfl⟩
theorem collect0_any (w : World) (Bm : Nat) (mv : Value) (pm : K4 → Option Nat) (n : Nat) (hP : PMap w mv pm n) (hN : n ≤ 1000000) (h0 : ∀ k, k.ok → pm k = .none) (hBm : Bm < w.heap.size) (hm : w.cell? ⟨Bm, 0, none⟩ = some mv) :
    Calls Try.prog 63 #[.func (.func 64) #[] #[.pointer (some ⟨Bm, 0, none⟩)]] w fun e w' =>
      ∃ v : Value, e = .returned v ∧ w'.ownsRow w.heap.size 27 4 v 0 [] ∧ RowKit.Below w.heap.size w w' := by
  obtain ⟨D, hD, ⟨rfl, _⟩ | ⟨b, rfl, hown⟩⟩ := hP
  · exact collectnil_any w Bm hBm hm
  · refine (collect_any w Bm b n D pm hD hN hBm hm hown).mono ?_
    rintro e w' ⟨v, ss, rfl, hk, hrow, hb⟩
    have : ss = [] := by
      cases ss with
      | nil => rfl
      | cons k l =>
        have := (hk.2 k).1 List.mem_cons_self
        rw [h0 k this.2] at this
        cases this.1
    subst this
    exact ⟨v, rfl, hrow, hb⟩
set_option maxRecDepth 20000 in
theorem sortedKeys0_any (w : World) (Bm : Nat) (mv : Value) (pm : K4 → Option Nat) (n : Nat) (hP : PMap w mv pm n) (hN : n ≤ 1000000) (h0 : ∀ k, k.ok → pm k = .none) (hBm : Bm < w.heap.size) (hm : w.cell? ⟨Bm, 0, none⟩ = some mv) :
    Calls Try.prog 38 #[.func (.func 64) #[] #[.pointer (some ⟨Bm, 0, none⟩)], .func (.func 40) #[] #[]] w fun e w' =>
      ∃ a c, e = .returned (.slice a 0 c) ∧ RowKit.Below w.heap.size w w' := by
  have HC := Lib.hid (collect0_any w Bm mv pm n hP hN h0 hBm hm)
  clear hP h0 hBm hm
  go_enter Try.func38, Try.ntmps38
  go_wp2_with fail
  refine HC.out.mono ?_
  rintro e w1 ⟨v, rfl, hrow, hb⟩
  clear HC
  rcases hrow.2 with ⟨rfl, _⟩ | ⟨blk, cap, cur, rfl, hbase, hcur, hnc, hcm, hcs, htake⟩
  · have HB := Lib.hid hb
    clear hb hrow
    go_wp2_with fail
    refine (sortNone_any _ _).mono ?_
    rintro e w2 ⟨rfl, rfl⟩
    go_wp2_with fail
    go_ret
    exact ⟨none, 0, rfl, HB.out⟩
  · have hh : HoldsK kcells 4 w1 blk 0 ([] : List K4).toArray := holds_of_cells hcur (by simp)
    have hblk : blk < w1.heap.size := (Array.getElem?_eq_some_iff.1 hcur).1
    have HS := Lib.hid (sortFunc_any w1 blk cap [] hh hblk (by simp))
    simp only [List.length_nil] at HS
    have HB := Lib.hid hb
    have HR : Hid (∀ w2 : World, (∀ b, b < w1.heap.size → b ≠ blk → w2.heap[b]? = w1.heap[b]?) → w2.os = w1.os → w2.tape = w1.tape → w2.output = w1.output → w1.heap.size ≤ w2.heap.size → RowKit.Below w.heap.size w w2) := Lib.hid fun w2 hf2 ho2 ht2 hp2 hs2 => by
      obtain ⟨b1, b2, b3, b4, b5⟩ := HB.out
      exact ⟨ho2.trans b1, ht2.trans b2, hp2.trans b3, Nat.le_trans b4 hs2, fun k hk => (hf2 k (by omega) (by omega)).trans (b5 k hk)⟩
    clear hb hrow hcur htake hh hcs
    go_wp2_with fail
    refine HS.out.mono ?_
    rintro e w2 ⟨rfl, _, hf2, ho2, ht2, hp2, hs2⟩
    have HQ := Lib.hid (HR.out w2 hf2 ho2 ht2 hp2 hs2)
    clear HS HR hf2 ho2 ht2 hp2 hs2
    go_wp2_with fail
    go_ret
    exact ⟨_, cap, rfl, HQ.out⟩

set_option maxRecDepth 20000 in
set_option maxHeartbeats 1000000 in
theorem fall_none (w : World) (b : Nat) (g : Gh) (S : St) (h : Sto w b g S) (hoff : S.off = false) (hS : S.WF) (n : Nat) (hsm : S.Sm n) (hn : n ≤ 1000) (hne : S.wks = [])
    (ka : Option Addr) (kn kc : Nat) (keep : List Int) (t : Int) :
    Calls Try.prog 13 #[.pointer (some ⟨b, 0, .none⟩), .slice ka kn kc, .int .i64 t] w fun e w' =>
      e = .returned (.int .i64 (S.lostN (S.fallL keep))) ∧ ∃ g', Sto w' b g' (S.fallen keep t) ∧ Jk w w' g.r g'.r := by
  have hLN : S.lostN (S.fallL keep) = 0 := by
    have : S.fallL keep = [] := by unfold St.fallL; rw [hne]; simp [sortK]
    rw [this]; unfold St.lostN St.wetN; rw [hne]; rfl
  have hFE : S.fallen keep t = { S with wet := fun _ => .none, wks := [], off := true } := by
    have : S.fallL keep = [] := by unfold St.fallL; rw [hne]; simp [sortK]
    unfold St.fallen; rw [this]; rfl
  rw [hLN, hFE]
  have HON := Lib.hid (on_any w b g S h)
  have HWT := Lib.hid (wet_any w b g S h hS n hsm (by omega))
  have hz : S.wetN = 0 := by unfold St.wetN; rw [hne]; rfl
  rw [hz] at HWT
  simp only [show ((0 : Nat) : Int) = 0 from rfl] at HWT
  have H0 : Hid (∀ k, k.ok → g.pw k = .none) := Lib.hid (fun k hk => by
    have h1 := h.wet k hk
    have h2 : S.wet k = .none := by
      cases hw : S.wet k with
      | none => rfl
      | some p =>
        have := (hS.wks k).2 ⟨by simp [hw], hk⟩
        rw [hne] at this
        simp at this
    rw [h2] at h1
    cases hp : g.pw k with
    | none => rfl
    | some x => rw [hp] at h1; exact h1.elim)
  have HPM := Lib.hid h.wm
  have c3 : w.cell? ⟨b, 3, .none⟩ = some g.wv := cell_of_block h.heap rfl
  have hlt : b < w.heap.size := h.lt
  obtain ⟨mo, hmo⟩ : ∃ mo, g.wv = .map mo := by
    rcases h.wm.shape with e | ⟨m, e⟩
    · exact ⟨_, e⟩
    · exact ⟨_, e⟩
  rw [hmo] at c3 HPM
  have HL : Hid (S.wks.length ≤ 1000000) := Lib.hid (by rw [hne]; simp)
  have H := Lib.hid h
  rw [hoff, Bool.not_false] at HON
  clear h hoff hS hsm hne hLN hFE hz
  go_enter Try.func13, Try.ntmps13
  go_wp2_with fail
  refine HON.out.mono ?_
  rintro e w' ⟨rfl, rfl⟩
  go_wp2_with fail
  refine HWT.out.mono ?_
  rintro e w1 ⟨rfl, hb1⟩
  have d3 : w1.cell? ⟨b, 3, .none⟩ = some (.map mo) := (hb1.cell (p := ⟨b, 3, .none⟩) hlt).trans c3
  have HB1 := Lib.hid hb1
  clear HON HWT hb1 c3
  go_wp2_with fail
  refine (mkeys_any w1 mo).mono ?_
  rintro e w2 ⟨rfl, hb2, hcm, hsz2⟩
  have HB2 := Lib.hid (HB1.out.trans (hb2.mono HB1.out.size))
  have HSK := Lib.hid (sortedKeys0_any w2 w1.heap.size (.map mo) g.pw S.wks.length (HPM.out.keep fun x hx hlt => HB2.out.block x hlt) HL.out H0.out (by omega) hcm)
  clear hb2 hcm hsz2 d3
  go_wp2_with fail
  refine HSK.out.mono ?_
  rintro e w3 ⟨blk, cap, rfl, hb3⟩
  have HB3 := Lib.hid (HB2.out.trans (hb3.mono HB2.out.size))
  clear HSK hb3 hlt
  go_wp2_with fail
  have hL := (H.out.later HB3.out).stoL
  have c3 : w3.cell? ⟨b, 3, .none⟩ = some g.wv := cell_of_block hL.heap rfl
  have c6 : w3.cell? ⟨b, 6, .none⟩ = some (.pointer .none) := cell_of_block hL.heap rfl
  have c1 : w3.cell? ⟨b, 1, .none⟩ = some (.bool S.off) := cell_of_block hL.heap rfl
  have f3 : w3.frozen? ⟨b, 3, .none⟩ = false := frozen_of_block hL.heap 3
  have f6 : w3.frozen? ⟨b, 6, .none⟩ = false := frozen_of_block hL.heap 6
  have f1 : w3.frozen? ⟨b, 1, .none⟩ = false := frozen_of_block hL.heap 1
  have HF := Lib.hid hL.fallen
  clear hL
  refine wp_loop_rounds 1 ?_
  rw [rounds_succ]
  go_wp2_with fail
  go_ret
  exact ⟨rfl, _, HF.out.1, (Jk.of_below HB3.out g.r).trans HF.out.2⟩
end Go.Proofs.Ytlcenanahbaflaa
