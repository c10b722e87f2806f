/- The store: Make of what is there, Drop, Keys. -/
import Derived.Test.YtgjdabneodkmpaaStS
namespace Go.Proofs.Ytgjdabneodkmpaa
open Go.RowKit Go.Proofs Go.Shelf Go.Sort
set_option linter.unusedVariables false
set_option linter.unusedSimpArgs false

set_option maxRecDepth 20000 in
theorem make_there (w : World) (b : Nat) (g : Gh) (S : St) (h : Sto w b g S) (k : K4) (hk : k.ok) (o : Ob) (ho : S.seen k = some o) (hwhy : whyNot S k = 0) :
    Calls Try.prog 10 #[.pointer (some ⟨b, 0, .none⟩), kv k] w fun e w' => e = .returned (.int .i64 5) ∧ Below w.heap.size w w' := by
  obtain ⟨w1, hwe⟩ : ∃ w1, w.alloc (.cells #[.int .i64 k.a, .int .i64 k.b, .int .i64 k.c, .int .i64 k.d] 27) = w1 := ⟨_, rfl⟩
  have hb1 : Below w.heap.size w w1 := by rw [← hwe]; exact (Below.refl _ _).alloc (Nat.le_refl _) _
  have hK : KeyAt w1 w.heap.size k := by rw [← hwe]; exact KeyAt.new w k
  obtain ⟨x, hx⟩ : ∃ x, g.pm k = some x := by
    have := h.seen k hk
    rw [ho] at this
    cases hp : g.pm k with
    | none => rw [hp] at this; exact this.elim
    | some x => exact ⟨x, rfl⟩
  have HRF := Lib.hid (refused_any w1 b g S (h.later hb1) k)
  rw [hwhy] at HRF
  obtain ⟨k0, k1, k2, k3⟩ := hK.cells
  have H := Lib.hid (h.later hb1)
  have HB := Lib.hid hb1
  have HK := Lib.hid hK
  clear h hb1 hK
  unfold kv at HRF ⊢
  go_enter Try.func10, Try.ntmps10
  go_upto_region 1 with fail
  clear hwe
  go_wp2_with fail
  refine HRF.out.mono ?_
  rintro e w2 ⟨rfl, hb2⟩
  clear HRF k0 k1 k2 k3
  have H2 := Lib.hid (H.out.later hb2)
  have HB2 := Lib.hid (HB.out.trans (hb2.mono HB.out.size))
  have HK2 := Lib.hid (HK.out.later hb2)
  clear H HB HK hb2
  obtain ⟨k0, k1, k2, k3⟩ := HK2.out.cells
  have c2 : w2.cell? ⟨b, 2, .none⟩ = some g.sv := cell_of_block H2.out.heap rfl
  have hlk := PMap.look (w := w2.drew) (H2.out.sm.keep fun _ _ _ => rfl) Try.underlying61 zero_ptr_ob hk
  rw [hx] at hlk
  unfold kv at hlk
  simp only [ptrV, Option.map] at hlk
  go_upto_region 4 with fail
  go_region
  simp only [Exit.then]
  clear hlk
  go_wp2_with fail
  go_ret
  exact ⟨rfl, HB2.out.trans (((Below.refl _ _).drew).mono HB2.out.size)⟩

set_option maxRecDepth 20000 in
theorem drop_any (w : World) (b : Nat) (g : Gh) (S : St) (h : Sto w b g S) (k : K4) (hk : k.ok) (o : Ob) (ho : S.seen k = some o) (hwhy : whyNot S k = 0) (hS : S.WF) (m : Nat) (hsm : S.Sm m) (hm : m ≤ 100000) :
    Calls Try.prog 28 #[.pointer (some ⟨b, 0, .none⟩), kv k] w fun e w' =>
      e = .returned (.int .i64 0) ∧ ∃ g', Sto w' b g' (S.did k ⟨3, 0, [], []⟩) ∧ Fr w w' g.r g'.r ours := by
  obtain ⟨R, hR⟩ : ∃ R, S.did k ⟨3, 0, [], []⟩ = R := ⟨_, rfl⟩
  rw [hR]
  obtain ⟨w1, hwe⟩ : ∃ w1, w.alloc (.cells #[.int .i64 k.a, .int .i64 k.b, .int .i64 k.c, .int .i64 k.d] 27) = w1 := ⟨_, rfl⟩
  have hb1 : Below w.heap.size w w1 := by rw [← hwe]; exact (Below.refl _ _).alloc (Nat.le_refl _) _
  have hK : KeyAt w1 w.heap.size k := by rw [← hwe]; exact KeyAt.new w k
  obtain ⟨x, hx⟩ : ∃ x, g.pm k = some x := by
    have := h.seen k hk
    rw [ho] at this
    cases hp : g.pm k with
    | none => rw [hp] at this; exact this.elim
    | some x => exact ⟨x, rfl⟩
  have HFD := Lib.hid (find_any w1 b g S (h.later hb1) k hk)
  rw [hx] at HFD
  have e : findR S k (some x) = .tuple #[.pointer (some ⟨x, 0, .none⟩), .int .i64 0] := by simp [findR, hwhy, ptrV]
  rw [e] at HFD
  obtain ⟨k0, k1, k2, k3⟩ := hK.cells
  have H := Lib.hid (h.later hb1)
  have HB := Lib.hid hb1
  have HK := Lib.hid hK
  clear h hb1 hK e
  unfold kv at HFD ⊢
  go_enter Try.func28, Try.ntmps28
  go_upto_region 1 with fail
  clear hwe
  go_wp2_with fail
  refine HFD.out.mono ?_
  rintro e w2 ⟨rfl, hb2⟩
  clear HFD k0 k1 k2 k3
  have H2 := Lib.hid (H.out.later hb2)
  have HB2 := Lib.hid (HB.out.trans (hb2.mono HB.out.size))
  have HK2 := Lib.hid (HK.out.later hb2)
  clear H HB HK hb2
  obtain ⟨k0, k1, k2, k3⟩ := HK2.out.cells
  have hdo : Shr w2 g.r (.slice .none 0 0) [] := ⟨.none, 0, rfl, Row.none _, fun x h => by cases h⟩
  have HDO := Lib.hid (do_any w2 b g S H2.out k hk ⟨3, 0, [], []⟩ (.slice .none 0 0) hdo hS m hsm (by omega) (.inr (.inl rfl)))
  unfold kv deedV at HDO
  rw [hR] at HDO
  clear hR hdo hS hsm ho hx
  go_wp2_with fail
  refine HDO.out.mono ?_
  rintro e w4 ⟨rfl, g', a1, a2⟩
  have HST := Lib.hid (And.intro a1 a2)
  clear a1 a2
  go_wp2_with fail
  go_ret
  exact ⟨rfl, g', HST.out.1, (Fr.of_below HB2.out g.r ours).trans HST.out.2⟩

/-! ### keys in a row of the call's own -/
def KOwn (B : Nat) (W0 w : World) (v : Value) (ks : List K4) : Prop := w.ownsRow B 27 4 v ks.length (ks.flatMap kcells) ∧ Below W0.heap.size W0 w ∧ W0.heap.size ≤ B ∧ B ≤ w.heap.size
theorem KOwn.nil {B : Nat} {W0 w : World} (h : Below W0.heap.size W0 w) (h1 : W0.heap.size ≤ B) (h2 : B ≤ w.heap.size) : KOwn B W0 w (.slice none 0 0) [] := ⟨World.ownsRow_nil _ _ _ _, h, h1, h2⟩
/-- Whatever is written, but for what lies in the row. -/
theorem KOwn.kept {B : Nat} {W0 w w' : World} {v : Value} {ks : List K4} (h : KOwn B W0 w v ks) {g : Option Nat} (hg : w.grownBy w' g) (hne : ∀ k, g = some k → W0.heap.size ≤ k ∧ k < B) : KOwn B W0 w' v ks := by
  refine ⟨⟨h.1.1, ?_⟩, h.2.1.grown hg h.2.1.size (fun k hk => (hne k hk).1), h.2.2.1, Nat.le_trans h.2.2.2 hg.size⟩
  rcases h.1.2 with hv | ⟨y, cap, cur, hv, hb2, hy, rest⟩
  · exact .inl hv
  · refine .inr ⟨y, cap, cur, hv, hb2, ?_, rest⟩
    obtain ⟨_, _, _, _, hk⟩ := hg
    rw [hk y (Array.getElem?_eq_some_iff.1 hy).1 (fun e => by have := (hne y e.symm).2; omega)]
    exact hy
theorem KOwn.alloc {B : Nat} {W0 w : World} {v : Value} {ks : List K4} (h : KOwn B W0 w v ks) (o : Obj) : KOwn B W0 (w.alloc o) v ks := h.kept (World.grownBy_alloc w o none) (fun k hk => by cases hk)
theorem flat_len : ∀ l : List K4, (l.flatMap kcells).length = l.length * 4
  | [] => rfl
  | x :: l => by rw [List.flatMap_cons, List.length_append, flat_len l, List.length_cons]; simp [kcells]; omega
section
variable {ops : Array Oper} {rest : List Oper} {o : Oper} {a : Act} {Q : Exit → Act → World → Prop}
theorem wp_key {w0 : World} (hgd : o.guard = none) (s x : Operand) (ho : o.op = .call { callee := .builtin .append, args := #[s, x], argTypes := #[55, 55] })
    (v : Value) (ks : List K4) (hs : a.eval s = v) (B : Nat) (W0 : World) (hown : KOwn B W0 w0 v ks) (k : K4) (hx : a.eval x = .slice (some ⟨w0.heap.size, 0, none⟩) 1 1) (hlen : ks.length + 1 ≤ 1000000)
    (h : ∀ v' w', KOwn B W0 w' v' (ks ++ [k]) → (w0.alloc (.cells #[.int .i64 k.a, .int .i64 k.b, .int .i64 k.c, .int .i64 k.d] 27)).grownBy w' v.ownBlock → wpList Try.prog ops Q rest (a.put o.dst v') w') :
    wpList Try.prog ops Q (o :: rest) a (w0.alloc (.cells #[.int .i64 k.a, .int .i64 k.b, .int .i64 k.c, .int .i64 k.d] 27)) := by
  have h1 := hown.alloc (.cells #[.int .i64 k.a, .int .i64 k.b, .int .i64 k.c, .int .i64 k.d] 27)
  obtain ⟨i0, hi, hz0, hz1, hz2⟩ := info_parts info_key
  have hK := KeyAt.new w0 k
  obtain ⟨c0, c1, c2, c3⟩ := hK.cells
  refine wpList_append_own _ hgd s x 55 ho B 27 i0 _ 4 32 Try.underlying55 hi hz0 hz1 hz2 rfl (by decide) v _ _ hs h1.1 ⟨w0.heap.size, 0, none⟩ 1 1 (kcells k) hx rfl ?_ (kcells_one k) (by unfold maxLen; omega) (by omega) h1.2.2.2 ?_
  · intro j u hu
    have e : (⟨w0.heap.size, 0, none⟩ : Addr).add j = ⟨w0.heap.size, j, none⟩ := by unfold Addr.add; split <;> simp_all
    rw [e]
    unfold kcells at hu
    match j, hu with
    | 0, hu => simp at hu; subst hu; exact c0
    | 1, hu => simp at hu; subst hu; exact c1
    | 2, hu => simp at hu; subst hu; exact c2
    | 3, hu => simp at hu; subst hu; exact c3
    | j + 4, hu => simp at hu
  · intro v' w' ho' hg _
    refine h v' w' ⟨by rw [List.length_append, List.length_singleton, List.flatMap_append]; simpa using ho', h1.2.1.grown hg h1.2.1.size (fun z hz => Nat.le_trans h1.2.2.1 (World.ownsRow.lt h1.1 z hz).1), h1.2.2.1, Nat.le_trans h1.2.2.2 hg.size⟩ hg
end
def isKI (kind img : Int) (k : K4) : Bool := (k.a == kind) && (k.b == img)
/-- The keys of one kind and image that are there, rising. -/
def keysOf (S : St) (kind img : Int) : List K4 := if S.off then [] else sortK (S.sks.filter (isKI kind img))
/-- A slice of keys that came back. -/
def KOut (w : World) (v : Value) (ks : List K4) : Prop := (v = .slice none 0 0 ∧ ks = []) ∨ ∃ blk cap, v = .slice (some ⟨blk, 0, none⟩) ks.length cap ∧ KRow w blk ks ∧ ks.length ≤ cap
theorem sortK_nil : sortK [] = [] := by simp [sortK]
theorem sortK_len (l : List K4) : (sortK l).length = l.length := (List.mergeSort_perm l leK).length_eq
/-- Nothing is sorted. -/
theorem sortNil_any (w : World) (f : Value) : Calls Try.prog 58 #[.slice none 0 0, f] w fun e w' => e = .returned (.tuple #[]) ∧ w = w' := by
  go_enter Try.func58, Try.ntmps58
  go_wp2_with go_in
  refine wp_loop_rounds 1 ?_
  rw [rounds_succ]
  go_wp2_with go_in
  refine wp_loop_rounds 1 ?_
  rw [rounds_succ]
  go_wp2_with go_in
  go_end0
  exact ⟨rfl, rfl⟩
theorem keys_sorted {B : Nat} {w w1 : World} {v : Value} {ks : List K4} (h : KOwn B w w1 v ks) (hn : ks.length ≤ 100000) :
    (v = .slice none 0 0 ∧ ks = []) ∨ ∃ blk cap n, v = .slice (some ⟨blk, 0, none⟩) n cap ∧ n = ks.length ∧ n ≤ cap ∧ Calls Try.prog 58 #[.slice (some ⟨blk, 0, none⟩) n cap, .func (.func 40) #[] #[]] w1 fun e w2 =>
      e = .returned (.tuple #[]) ∧ KRow w2 blk (sortK ks) ∧ Below w.heap.size w w2 := by
  rcases h.1.2 with ⟨hv, h0⟩ | ⟨blk, cap, cur, hv, hbase, hcur, hnc, hcm, hcs, htake⟩
  · exact .inl ⟨hv, List.length_eq_zero_iff.1 h0⟩
  · refine .inr ⟨blk, cap, ks.length, hv, rfl, hnc, ?_⟩
    have hh : HoldsK kcells 4 w1 blk 0 ks.toArray := holds_of_cells hcur (by simpa [flat_len] using htake)
    have hblk : blk < w1.heap.size := (Array.getElem?_eq_some_iff.1 hcur).1
    refine (sortFunc_any w1 blk cap ks hh hblk (by omega)).mono ?_
    rintro e w2 ⟨rfl, hk2, hf2, ho2, ht2, hp2, hs2⟩
    have hge := h.2.2.1
    obtain ⟨b1, b2, b3, b4, b5⟩ := h.2.1
    exact ⟨rfl, hk2, ho2.trans b1, ht2.trans b2, hp2.trans b3, Nat.le_trans b4 hs2, fun k hk => (hf2 k (by omega) (by omega)).trans (b5 k hk)⟩

set_option maxRecDepth 20000 in
set_option maxHeartbeats 2000000 in
theorem keys_any (w : World) (b : Nat) (g : Gh) (S : St) (h : Sto w b g S) (hS : S.WF) (hl : S.sks.length ≤ 100000) (kind img : Int) :
    Calls Try.prog 29 #[.pointer (some ⟨b, 0, .none⟩), .int .i64 kind, .int .i64 img] w fun e w' => ∃ v, e = .returned v ∧ KOut w' v (keysOf S kind img) ∧ Below w.heap.size w w' := by
  have HON := Lib.hid (on_any w b g S h)
  cases hoff : S.off with
  | true =>
    have HK : Hid (keysOf S kind img = []) := Lib.hid (by unfold keysOf; rw [hoff]; rfl)
    rw [hoff] at HON
    clear h hS hl hoff
    go_enter Try.func29, Try.ntmps29
    go_wp2_with fail
    refine HON.out.mono ?_
    rintro e w1 ⟨rfl, rfl⟩
    go_wp2_with fail
    go_ret
    exact ⟨_, rfl, .inl ⟨rfl, HK.out⟩, Below.refl _ _⟩
  | false =>
    have HK : Hid (keysOf S kind img = sortK (S.sks.filter (isKI kind img))) := Lib.hid (by unfold keysOf; rw [hoff]; rfl)
    rw [hoff] at HON
    have c2 : w.cell? ⟨b, 2, .none⟩ = some g.sv := cell_of_block h.heap rfl
    obtain ⟨D, hD, hmap⟩ := h.sm
    rcases hmap with ⟨hn, rfl⟩ | ⟨mb, hn, hown⟩
    · rw [hn] at c2
      have hz : S.sks = [] := List.length_eq_zero_iff.1 hD.size.symm
      have HZ : Hid (keysOf S kind img = []) := Lib.hid (by rw [HK.out, hz]; exact sortK_nil)
      have hrg := run_range_nilMap (P := Try.prog) w 61 _ _ Try.underlying61
      have hnx : ∀ ty, (Instr.next (.pointer (some ⟨w.heap.size, 0, none⟩)) false ty).run Try.prog (w.alloc (.mapIter none 0 #[] 0)) = _ := fun ty => run_next_nilMap _ ty 0 0 #[]
      clear h hz hD hoff HK
      go_enter Try.func29, Try.ntmps29
      go_wp2_with (go_at_call 21; refine HON.out.mono ?_; rintro e w1 ⟨rfl, rfl⟩)
      refine wp_loop_rounds 1 ?_
      rw [rounds_succ]
      go_wp2_with fail
      refine (sortNil_any _ _).mono ?_
      rintro e w1 ⟨rfl, rfl⟩
      go_wp2_with fail
      go_ret
      exact ⟨_, rfl, .inl ⟨rfl, HZ.out⟩, (Below.refl _ _).alloc (Nat.le_refl _) _⟩
    · rw [hn] at c2
      have H := Lib.hid h
      have HD := Lib.hid hD
      have HS := Lib.hid hS
      have HLK := Lib.hid hl
      have HMB : Hid (mb < w.heap.size) := Lib.hid hown.lt
      clear h hD hS hoff hl
      go_enter Try.func29, Try.ntmps29
      go_wp2_with (first
        | (go_at_call 21; refine HON.out.mono ?_; rintro e w1 ⟨rfl, rfl⟩)
        | (at_range; refine wpList_range_own _ rfl _ 61 rfl 27 66 keyed Try.underlying61 _ mb _ _ rfl hown ?_; intro w0 hrg0 hg0 hs0)
        | go_in)
      have hW0 : Below w.heap.size w w0 := (Below.refl _ _).grown hg0 (Nat.le_refl _) (fun j hj => by cases hj)
      have HW0 := Lib.hid hW0
      have HS0 : Hid (w0.heap.size = w.heap.size + 1) := Lib.hid hs0
      go_frame
      go_loopw [7] (fun v wr => ∃ (left : Lit → Bool) (cnt : Nat) (ss : List K4), wr.ranges Try.prog 27 ptrE mb w.heap.size S.sks.length D left cnt ∧ ss.length + cnt ≤ S.sks.length ∧ Coll g.pm left ss ∧ KOwn (w.heap.size + 1) w wr v (ss.filter (isKI kind img)))
        (fun _ wr => wr.rangeLeft mb w.heap.size)
      case atStart =>
        exact ⟨_, _, [], hrg0, by rw [HD.out.size]; simp, Coll.start HD.out, KOwn.nil HW0.out (by omega) (by rw [HS0.out]; exact Nat.le_refl _)⟩
      case round =>
        obtain ⟨left, cnt, ss, hrg, hcs, hC, hkw⟩ := hrel
        have HC := Lib.hid hC
        have HKW := Lib.hid hkw
        clear hC hkw
        go_wp2_with (first
          | (at_next; refine wpList_next_ranges _ rfl _ rfl 27 keyed ptrE kv (fun p : Option Addr => Value.pointer p) (fun key l hk => by obtain ⟨k, h, _⟩ := keyOf_inv hk; exact ⟨k, h⟩) (fun v y hv => by cases v <;> simp [ptrE] at hv; exact ⟨_, rfl⟩) mb w.heap.size S.sks.length _ _ _ rfl hrg ?_ ?_)
          | go_in)
        · intro hc0 hl0
          have hp : ss.Perm S.sks := HC.out.perm hl0 HS.out.nd.1 (fun k => by
            rw [HS.out.sks k]
            constructor
            · rintro ⟨h1, h2⟩
              exact ⟨by rw [(H.out.seen k h2).some_eq]; exact h1, h2⟩
            · rintro ⟨h1, h2⟩
              exact ⟨by rw [← (H.out.seen k h2).some_eq]; exact h1, h2⟩)
          have hpf := hp.filter (isKI kind img)
          have HQ : Hid (keysOf S kind img = sortK (ss.filter (isKI kind img))) := Lib.hid (by rw [HK.out, sortK_perm hpf])
          have hfl : (ss.filter (isKI kind img)).length ≤ 100000 := by
            have h1 := List.length_filter_le (isKI kind img) ss
            have := HLK.out; omega
          rcases keys_sorted HKW.out hfl with ⟨rfl, hks⟩ | ⟨blk, cap, n, rfl, hnn, hnc, hcall⟩
          · have HZ : Hid (keysOf S kind img = []) := Lib.hid (by rw [HQ.out, hks]; exact sortK_nil)
            have HBW : Hid (Below w.heap.size w _) := Lib.hid HKW.out.2.1
            clear hp hpf hks
            go_wp2_with fail
            refine (sortNil_any _ _).mono ?_
            rintro e w1 ⟨rfl, rfl⟩
            go_wp2_with fail
            go_ret
            exact ⟨_, rfl, .inl ⟨rfl, HZ.out⟩, HBW.out⟩
          · have HCALL := Lib.hid hcall
            have HNN : Hid (n = (keysOf S kind img).length) := Lib.hid (by rw [HQ.out, sortK_len, hnn])
            have HNC := Lib.hid hnc
            clear hp hpf hcall hnn hnc hfl
            go_wp2_with fail
            refine HCALL.out.mono ?_
            rintro e w1 ⟨rfl, hk1, hb1⟩
            have HK1 := Lib.hid hk1
            have HB1 := Lib.hid hb1
            clear hk1 hb1
            go_wp2_with fail
            go_ret
            exact ⟨.slice (some ⟨blk, 0, none⟩) n cap, rfl, .inr ⟨blk, cap, by rw [← HNN.out], by rw [HQ.out]; exact HK1.out, by rw [← HNN.out]; exact HNC.out⟩, HB1.out⟩
        · intro x c kl0 yd yp w2 cnt2 hkey hlk hv hat hrg2 hlt hg2 hs2 hen
          obtain ⟨hok, rfl, px, hpx, rfl⟩ := entry_came HD.out hkey hv hat
          obtain ⟨hC2, _⟩ := Coll.step HD.out HC.out hok hlk hat
          have HRG2 := Lib.hid hrg2
          have HLT := Lib.hid hlt
          have HC2 := Lib.hid hC2
          have HK2 : Hid (KOwn (w.heap.size + 1) w w2 _ _) := Lib.hid (HKW.out.kept hg2 (fun j hj => by cases hj; omega))
          have HS2 : Hid (w.heap.size + 1 ≤ w2.heap.size) := Lib.hid HK2.out.2.2.2
          unfold kv at hen ⊢
          have hK3 := KeyAt.new w2 x
          have HKA := Lib.hid hK3
          have HG3 : Hid ((w2.alloc (.cells #[.int .i64 x.a, .int .i64 x.b, .int .i64 x.c, .int .i64 x.d] 27)).ranges Try.prog 27 ptrE mb w.heap.size S.sks.length D _ cnt2) := Lib.hid (hrg2.alloc _)
          have HK3 := Lib.hid (HK2.out.alloc (.cells #[.int .i64 x.a, .int .i64 x.b, .int .i64 x.c, .int .i64 x.d] 27))
          clear hs2 hv hat hkey hC2 hg2 hrg2 hlt hK3
          go_upto_region 7 with fail
          generalize (w2.alloc (.cells #[.int .i64 x.a, .int .i64 x.b, .int .i64 x.c, .int .i64 x.d] 27)) = w3 at *
          obtain ⟨k0, k1, k2, k3⟩ := HKA.out.cells
          cases t1 : (x.a == kind) <;> cases t2 : (x.b == img)
          case true.true =>
            have HF : Hid ((ss ++ [x]).filter (isKI kind img) = ss.filter (isKI kind img) ++ [x]) := Lib.hid (by rw [List.filter_append]; simp [isKI, t1, t2])
            have hfl : (ss.filter (isKI kind img)).length + 1 ≤ 1000000 := by
              have h1 := List.length_filter_le (isKI kind img) ss
              have := HLK.out; omega
            have HFL := Lib.hid hfl
            clear hfl
            go_wp2_with (at_builtin; refine wp_key rfl _ _ rfl _ _ rfl _ _ HK3.out x rfl HFL.out ?_; intro v5 w5 o5 hg5)
            have hlt5 := fun z hz => (World.ownsRow.lt HK3.out.1 z hz).1
            obtain ⟨_, _, _, _, hblk5⟩ := hg5
            have HG5 := Lib.hid (ranges_keep (HG3.out.alloc (.cells #[.int .i64 x.a, .int .i64 x.b, .int .i64 x.c, .int .i64 x.d] 27)) (hblk5 mb (by have := HMB.out; have := HK3.out.2.2.2; simp; omega) (fun e => by have := hlt5 _ e.symm; have := HMB.out; omega)) (hblk5 w.heap.size (by have := HK3.out.2.2.2; simp; omega) (fun e => by have := hlt5 _ e.symm; omega)))
            have HO5 := Lib.hid o5
            clear hblk5 o5 hlt5
            go_wp2_with fail
            go_roundw
            case rel => exact ⟨_, cnt2, ss ++ [x], HG5.out, by have := HLT.out; simp; omega, HC2.out, by rw [HF.out]; exact HO5.out⟩
            case measure => rw [HG5.out.left_eq, hrg.left_eq]; exact HLT.out
          all_goals
            have HF : Hid ((ss ++ [x]).filter (isKI kind img) = ss.filter (isKI kind img)) := Lib.hid (by rw [List.filter_append]; simp [isKI, t1, t2])
            go_wp2_with fail
            go_roundw
            case rel => exact ⟨_, cnt2, ss ++ [x], HG3.out, by have := HLT.out; simp; omega, HC2.out, by rw [HF.out]; exact HK3.out⟩
            case measure => rw [HG3.out.left_eq, hrg.left_eq]; exact HLT.out
end Go.Proofs.Ytgjdabneodkmpaa
