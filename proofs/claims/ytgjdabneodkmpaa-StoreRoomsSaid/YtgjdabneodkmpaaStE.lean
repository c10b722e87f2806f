/- What a store's own functions answer, and what they leave. -/
import Derived.Test.YtgjdabneodkmpaaStDo
import Derived.StillTailTactics
namespace Go.Proofs.Ytgjdabneodkmpaa
open Go.RowKit
set_option linter.unusedVariables false

/-- Bytes in new memory, of nobody's role. -/
def clV (N : Nat) (l : List UInt8) : SV := ⟨fun w v => ∃ a c, v = .slice a l.length c ∧ (Row w a c l ∧ ∀ x, a = some x → N ≤ x.block ∧ x.block < w.heap.size),
  fun w w' v ⟨a, c, h1, h2, h3⟩ hb => ⟨a, c, h1, h2.later hb, fun x hx => ⟨(h3 x hx).1, Nat.lt_of_lt_of_le (h3 x hx).2 hb.size⟩⟩⟩
theorem clV_of {w0 w : World} {v : Value} {l : List UInt8} (h : Own w0 w v l) {N : Nat} (hN : N ≤ w0.heap.size) : (clV N l).p w v := by
  obtain ⟨a, c, hv, hr⟩ := h.row
  refine ⟨a, c, hv, hr, fun x hx => ?_⟩
  have := h.new x.block (by rw [hv, hx]; rfl)
  omega
theorem clV_shr {w0 w : World} {v : Value} {l : List UInt8} {r : Nat → Role} (h : (clV w0.heap.size l).p w v) (hd : ∀ x, w0.heap.size ≤ x → r x = .junk) : Shr w r v l := by
  obtain ⟨a, c, hv, hr, hx⟩ := h
  exact ⟨a, c, hv, hr, fun x e => ⟨(hx x e).2, hd _ (hx x e).1⟩⟩
def gdV (N : Nat) (off : Int) (l : List UInt8) : SV := ⟨fun w v => ∃ dv, v = deedV ⟨1, off, [], l⟩ dv ∧ (clV N l).p w dv, fun w w' v ⟨dv, h1, h2⟩ hb => ⟨dv, h1, (clV N l).st _ _ _ h2 hb⟩⟩
def jE (w0 : World) (b : Nat) (g : Gh) (S' : St) : Nat → World → Prop
  | 0, w => Below w0.heap.size w0 w
  | _, w => ∃ g', Sto w b g' S' ∧ Fr w0 w g.r g'.r ours
theorem jE_st {w0 : World} {b : Nat} {g : Gh} {S' : St} (ph : Nat) {w w' : World} (h : jE w0 b g S' ph w) (hb : Below w.heap.size w w') : jE w0 b g S' ph w' := by
  match ph, h with
  | 0, h => exact Below.trans h (hb.mono h.size)
  | n + 1, h =>
    obtain ⟨g', h1, h2⟩ := h
    exact ⟨g', h1.later hb, h2.later hb⟩

def St.wr (S : St) (k : K4) (o : Ob) (off : Int) (l : List UInt8) : Int × St :=
  if off < 0 ∨ off > 16384 - l.length then (3, S) else if growthI o off l.length > max (S.room - S.used) 0 then (6, S) else (0, S.did k ⟨1, off, [], l⟩)

set_option maxRecDepth 20000 in
theorem swrite_any (w : World) (b : Nat) (g : Gh) (S : St) (h : Sto w b g S) (k : K4) (hk : k.ok) (x : Nat) (hx : g.pm k = some x) (o : Ob) (ho : S.seen k = some o) (off : Int) (hof : -9223372036854775808 ≤ off ∧ off ≤ 9223372036854775807) (ad : Option Addr) (cap n : Nat) (l : List UInt8) (hr : Row w ad cap l) (hl : l.length = n) (hn : n ≤ 100000)
    (hS : S.WF) (m : Nat) (hsm : S.Sm m) (hm : m ≤ 100000) (hu : 0 ≤ S.used) :
    Calls Try.prog 37 #[.pointer (some ⟨b, 0, .none⟩), kv k, .pointer (some ⟨x, 0, .none⟩), .int .i64 off, .slice ad n cap] w fun e w' =>
      e = .returned (.int .i64 (S.wr k o off l).1) ∧ ∃ g', Sto w' b g' (S.wr k o off l).2 ∧ Fr w w' g.r g'.r ours := by
  obtain ⟨hof1, hof2⟩ := hof
  obtain ⟨w1, hwe⟩ : ∃ w1, w.alloc (.cells #[.int .i64 k.a, .int .i64 k.b, .int .i64 k.c, .int .i64 k.d] 27) = w1 := ⟨_, rfl⟩
  have hb1 : Below w.heap.size w w1 := by rw [← hwe]; exact (Below.refl _ _).alloc (Nat.le_refl _) _
  have hK : KeyAt w1 w.heap.size k := by rw [← hwe]; exact KeyAt.new w k
  have h1 := h.later hb1
  have hr1 := hr.later hb1
  have hox := h1.seen k hk
  rw [hx, ho] at hox
  have hol := (hS.seen k o ho).1
  by_cases hbad : off < 0 ∨ off > 16384 - n
  · have HW : Hid (S.wr k o off l = (3, S)) := Lib.hid (by unfold St.wr; rw [if_pos (by rw [hl]; exact hbad)])
    have H1 := Lib.hid (And.intro h1 hb1)
    clear h h1 hr hr1 hK hb1 hS hsm hox
    unfold kv
    go_enter Try.func37, Try.ntmps37
    go_upto_region 1 with fail
    rcases hbad with hbad | hbad
    · go_wp2_with fail
      go_ret
      rw [HW.out]
      exact ⟨rfl, g, H1.out.1, Fr.of_below H1.out.2 _ _⟩
    · by_cases hneg : off < 0
      · go_wp2_with fail
        go_ret
        rw [HW.out]
        exact ⟨rfl, g, H1.out.1, Fr.of_below H1.out.2 _ _⟩
      · go_wp2_with fail
        go_ret
        rw [HW.out]
        exact ⟨rfl, g, H1.out.1, Fr.of_below H1.out.2 _ _⟩
  · have hb2 : 0 ≤ off ∧ off ≤ 16384 - n := by omega
    obtain ⟨ho1, ho2⟩ := hb2
    have HG := Lib.hid (growth_any w1 g.r false k x o hox off n ho1 (by omega) (by omega) (by omega) (by omega))
    have HLF := Lib.hid (left_any w1 b g S h1 ⟨hS.room.2, hS.room.1⟩ ⟨hu, by have := hsm.used; omega⟩)
    obtain ⟨gr, hgr⟩ : ∃ gr, growthI o off n = gr := ⟨_, rfl⟩
    obtain ⟨lf, hlf⟩ : ∃ lf, max (S.room - S.used) 0 = lf := ⟨_, rfl⟩
    rw [hgr] at HG
    rw [hlf] at HLF
    have HWc : Hid (S.wr k o off l = if gr > lf then (6, S) else (0, S.did k ⟨1, off, [], l⟩)) := Lib.hid (by unfold St.wr; rw [if_neg (by rw [hl]; exact hbad), hl, hgr, hlf])
    have H1 := Lib.hid h1
    have HB1 := Lib.hid hb1
    have HK := Lib.hid hK
    have HR1 := Lib.hid hr1
    have HS := Lib.hid hS
    have HSM := Lib.hid hsm
    have HN := Lib.hid hl
    have HC : Hid (canD ⟨1, off, [], l⟩ (S.seen k)) := Lib.hid (.inr (.inr (.inl ⟨rfl, by rw [ho]; rfl, ho1, by show off + l.length ≤ 16384; omega⟩)))
    clear h h1 hr hr1 hK hb1 hS hsm hox hgr hlf hx ho
    unfold kv
    go_enter Try.func37, Try.ntmps37
    go_upto_region 1 with fail
    clear hwe
    go_wp2_with fail
    refine HG.out.mono ?_
    rintro e wg ⟨rfl, rfl⟩
    clear HG
    go_wp2_with fail
    refine HLF.out.mono ?_
    rintro e w2 ⟨rfl, hb2⟩
    clear HLF
    have H2 := Lib.hid (H1.out.later hb2)
    have HB := Lib.hid (HB1.out.trans (hb2.mono HB1.out.size))
    have HK2 := Lib.hid (HK.out.later hb2)
    have HR := Lib.hid (HR1.out.later hb2)
    clear hb2 H1 HB1 HK HR1
    by_cases hgl : gr > lf
    · have HW : Hid (S.wr k o off l = (6, S)) := Lib.hid (by rw [HWc.out, if_pos hgl])
      go_wp2_with fail
      go_ret
      rw [HW.out]
      exact ⟨rfl, g, H2.out, Fr.of_below HB.out _ _⟩
    · have HW : Hid (S.wr k o off l = (0, S.did k ⟨1, off, [], l⟩)) := Lib.hid (by rw [HWc.out, if_neg hgl])
      obtain ⟨S', hS'⟩ : ∃ S', S.did k ⟨1, off, [], l⟩ = S' := ⟨_, rfl⟩
      rw [hS'] at HW
      have HS' := Lib.hid hS'
      clear hS'
      go_upto_region 5 with fail
-- REG E5
      refine wp_region_ptab (L := fun ph => match ph with | 0 => [cV (.pointer (some ⟨b, 0, .none⟩)), cV (.agg #[.int .i64 k.a, .int .i64 k.b, .int .i64 k.c, .int .i64 k.d]), cV (.int .i64 off), cV (.slice ad n cap), clV w2.heap.size l, gdV w2.heap.size off l, cV (.int .i64 0), cV (.int .i64 0)] | _ => [cV (.pointer (some ⟨b, 0, .none⟩)), cV (.agg #[.int .i64 k.a, .int .i64 k.b, .int .i64 k.c, .int .i64 k.d]), cV (.int .i64 off), cV (.slice ad n cap), tV, tV, cV (.int .i64 0), cV (.int .i64 0)]) (jE w2 b g S') [6] [(0, 0), (0, 0), (0, 0), (0, 0), (0, 0), (0, 0), (0, 1), (1, 1)] [[(0, none)], [(6, none)], [(3, none)], [(4, none)], [(31, some 3)], [(30, some 2), (32, some 4)], [(28, some 0), (29, some 1), (33, some 5)], [(34, some 6)]] 8 1 35 (by kernel_rfl) rfl rfl rfl (by kernel_rfl) (by kernel_rfl) (by decide) (by kernel_rfl) ?_ ?_ ?_ ?_ ?_
      · exact fun ph w1 w2 h hb => jE_st ph h hb
      · exact Below.refl _ _
      · show ∀ i, i < 8 → _
        iterate 8 (refine fls ?_ ?_)
        · exact fl0
        · intro hne lo hi ph hran hp1 hp2 a w1 hJ hsz hs      -- 0: slot 28
          obtain ⟨rfl, rfl⟩ : 0 = lo ∧ 0 = hi := Prod.mk.inj (Option.some.inj hran)
          obtain rfl : ph = 0 := by omega
          obtain ⟨h0, _⟩ := hs
          have h0 : a.tmps.getD 0 undef = .pointer (some ⟨b, 0, .none⟩) := h0
          refine op_run rfl rfl (v := .pointer (some ⟨b, 0, .none⟩)) (w' := w1) ?_ rfl (Below.refl _ _)
          simp [execOp, Act.eval, h0, go_sem]
        · intro hne lo hi ph hran hp1 hp2 a w1 hJ hsz hs      -- 1: slot 29
          obtain ⟨rfl, rfl⟩ : 0 = lo ∧ 0 = hi := Prod.mk.inj (Option.some.inj hran)
          obtain rfl : ph = 0 := by omega
          obtain ⟨h0, _⟩ := hs
          have h0 : a.tmps.getD 6 undef = .pointer (some ⟨w.heap.size, 0, .none⟩) := h0
          obtain ⟨c, c', c'', c'''⟩ := KeyAt.cells (HK2.out.later hJ)
          refine op_run rfl rfl (v := .agg #[.int .i64 k.a, .int .i64 k.b, .int .i64 k.c, .int .i64 k.d]) (w' := w1) ?_ rfl (Below.refl _ _)
          simp [execOp, Act.eval, h0, c, c', c'', c''', go_sem]
        · intro hne lo hi ph hran hp1 hp2 a w1 hJ hsz hs      -- 2: slot 30
          obtain ⟨rfl, rfl⟩ : 0 = lo ∧ 0 = hi := Prod.mk.inj (Option.some.inj hran)
          obtain rfl : ph = 0 := by omega
          obtain ⟨h0, _⟩ := hs
          have h0 : a.tmps.getD 3 undef = .int .i64 off := h0
          refine op_run rfl rfl (v := .int .i64 off) (w' := w1) ?_ rfl (Below.refl _ _)
          simp [execOp, Act.eval, h0, go_sem]
        · intro hne lo hi ph hran hp1 hp2 a w1 hJ hsz hs      -- 3: slot 31
          obtain ⟨rfl, rfl⟩ : 0 = lo ∧ 0 = hi := Prod.mk.inj (Option.some.inj hran)
          obtain rfl : ph = 0 := by omega
          obtain ⟨h0, _⟩ := hs
          have h0 : a.tmps.getD 4 undef = .slice ad n cap := h0
          refine op_run rfl rfl (v := .slice ad n cap) (w' := w1) ?_ rfl (Below.refl _ _)
          simp [execOp, Act.eval, h0, go_sem]
        · intro hne lo hi ph hran hp1 hp2 a w1 hJ hsz hs      -- 4: slot 32
          obtain ⟨rfl, rfl⟩ : 0 = lo ∧ 0 = hi := Prod.mk.inj (Option.some.inj hran)
          obtain rfl : ph = 0 := by omega
          obtain ⟨h0, _⟩ := hs
          have h0 : a.tmps.getD 31 undef = .slice ad n cap := h0
          refine op_call rfl rfl (f := 45) (args := #[.slice ad n cap]) (by simp [execOp, Act.eval, resolve, h0, go_sem]) ?_
          exact (clone_any ad n cap l w1 (HR.out.later hJ) HN.out (by omega)).mono (fun e w' ⟨v, h1, ho⟩ => ⟨v, h1, clV_of ho (Below.size hJ), ho.below⟩)
        · intro hne lo hi ph hran hp1 hp2 a w1 hJ hsz hs      -- 5: slot 33
          obtain ⟨rfl, rfl⟩ : 0 = lo ∧ 0 = hi := Prod.mk.inj (Option.some.inj hran)
          obtain rfl : ph = 0 := by omega
          obtain ⟨h0, h1, _⟩ := hs
          have h0 : a.tmps.getD 30 undef = .int .i64 off := h0
          obtain ⟨v1, e1, m1⟩ : ∃ v, a.tmps.getD 32 undef = v ∧ (clV w2.heap.size l).p w1 v := ⟨_, rfl, h1⟩
          obtain ⟨aa, ca, hm0, hm1⟩ := m1
          subst hm0
          have e1 : a.tmps[32]?.getD undef = .slice aa l.length ca := by rw [← e1]; exact (Array.getD_eq_getD_getElem?).symm
          have h0 : a.tmps[30]?.getD undef = .int .i64 off := by rw [← h0]; exact (Array.getD_eq_getD_getElem?).symm
          refine op_run rfl rfl (v := deedV ⟨1, off, [], l⟩ (.slice aa l.length ca)) (w' := w1) ?_ ⟨_, rfl, aa, ca, rfl, hm1⟩ (Below.refl _ _)
          unfold deedV
          simp [execOp, Act.eval, h0, e1, go_sem]
        · intro hne lo hi ph hran hp1 hp2 a w1 hJ hsz hs      -- 6: slot 34
          exact absurd (by decide) hne
        · intro hne lo hi ph hran hp1 hp2 a w1 hJ hsz hs      -- 7: slot 10
          obtain ⟨rfl, rfl⟩ : 1 = lo ∧ 1 = hi := Prod.mk.inj (Option.some.inj hran)
          obtain rfl : ph = 1 := by omega
          obtain ⟨h0, _⟩ := hs
          have h0 : a.tmps.getD 34 undef = .int .i64 0 := h0
          refine op_run rfl rfl (v := .int .i64 0) (w' := w1) ?_ rfl (Below.refl _ _)
          simp [execOp, Act.eval, h0, go_sem]
      · show ∀ ph, ph < 1 → _
        iterate 1 (refine fls ?_ ?_)
        · exact fl0
        · intro i hi a w1 hJ hsz hs      -- heavy 0: op 6 slot 34
          obtain rfl : 6 = i := Option.some.inj hi
          obtain ⟨h0, h1, h2, _⟩ := hs
          have h0 : a.tmps.getD 28 undef = .pointer (some ⟨b, 0, .none⟩) := h0
          have h1 : a.tmps.getD 29 undef = .agg #[.int .i64 k.a, .int .i64 k.b, .int .i64 k.c, .int .i64 k.d] := h1
          obtain ⟨v2, h2, m2⟩ := h2
          have hcalm : ∀ (wq1 wq2 : World) (kk : Nat) (v0 : Value), kk ≠ 6 → VL [cV (.pointer (some ⟨b, 0, .none⟩)), cV (.agg #[.int .i64 k.a, .int .i64 k.b, .int .i64 k.c, .int .i64 k.d]), cV (.int .i64 off), cV (.slice ad n cap), clV w2.heap.size l, gdV w2.heap.size off l, cV (.int .i64 0), cV (.int .i64 0)] kk wq1 v0 → VL [cV (.pointer (some ⟨b, 0, .none⟩)), cV (.agg #[.int .i64 k.a, .int .i64 k.b, .int .i64 k.c, .int .i64 k.d]), cV (.int .i64 off), cV (.slice ad n cap), tV, tV, cV (.int .i64 0), cV (.int .i64 0)] kk wq2 v0 := Calm.all (n := 0) ⟨.inl ⟨_, rfl, rfl⟩, .inl ⟨_, rfl, rfl⟩, .inl ⟨_, rfl, rfl⟩, .inl ⟨_, rfl, rfl⟩, .inr (.inl rfl), .inr (.inl rfl), .inr (.inr rfl), .inl ⟨_, rfl, rfl⟩, trivial⟩
          refine hv_call rfl rfl (f := 34) (args := #[.pointer (some ⟨b, 0, .none⟩), .agg #[.int .i64 k.a, .int .i64 k.b, .int .i64 k.c, .int .i64 k.d], deedV ⟨1, off, [], l⟩ v2]) (by simp [execOp, Act.eval, resolve, h0, h1, h2, go_sem]) ?_
          refine (do_any w1 b g S (H2.out.later hJ) k hk ⟨1, off, [], l⟩ v2 (clV_shr m2 H2.out.dom) HS.out m HSM.out (by omega) HC.out).mono ?_
          rintro e w' ⟨rfl, g', a1, a2⟩
          refine ⟨_, rfl, rfl, ⟨g', ?_, (Fr.of_below hJ g.r _).trans a2⟩, hcalm _ _⟩
          rw [← HS'.out]; exact a1
      · intro f w1 hJ hv
        try simp only [Exit.then]
        simp only [putAll, List.foldl_cons, List.foldl_nil, Option.getD_some, Act.put, List.setIfInBounds_toArray, List.set_cons_succ, List.set_cons_zero]
        have e10 : f 10 = .int .i64 0 := hv 7 _ 10 rfl rfl
        clear hv
        obtain ⟨g3, h3, hf3⟩ := hJ
        have HST := Lib.hid (And.intro h3 hf3)
        clear h3 hf3
        go_wp2_with fail
        go_ret
        refine ⟨?_, g3, ?_, (Fr.of_below HB.out g.r ours).trans HST.out.2⟩
        · rw [HW.out]; exact congrArg Ending.returned e10
        · rw [HW.out]; exact HST.out.1
-- END E5

set_option maxRecDepth 20000 in
theorem append_any (w : World) (b : Nat) (g : Gh) (S : St) (h : Sto w b g S) (k : K4) (hk : k.ok) (o : Ob) (ho : S.seen k = some o) (hwhy : whyNot S k = 0) (ad : Option Addr) (cap n : Nat) (l : List UInt8) (hr : Row w ad cap l) (hl : l.length = n) (hn : n ≤ 100000)
    (hS : S.WF) (m : Nat) (hsm : S.Sm m) (hm : m ≤ 100000) (hu : 0 ≤ S.used) :
    Calls Try.prog 12 #[.pointer (some ⟨b, 0, .none⟩), kv k, .slice ad n cap] w fun e w' =>
      e = .returned (.int .i64 (S.wr k o o.bytes.length l).1) ∧ ∃ g', Sto w' b g' (S.wr k o o.bytes.length l).2 ∧ Fr w w' g.r g'.r ours := by
  obtain ⟨R, hR⟩ : ∃ R, S.wr k o o.bytes.length l = R := ⟨_, rfl⟩
  rw [hR]
  obtain ⟨w1, hwe⟩ : ∃ w1, w.alloc (.cells #[.int .i64 k.a, .int .i64 k.b, .int .i64 k.c, .int .i64 k.d] 27) = w1 := ⟨_, rfl⟩
  have hb1 : Below w.heap.size w w1 := by rw [← hwe]; exact (Below.refl _ _).alloc (Nat.le_refl _) _
  have hK : KeyAt w1 w.heap.size k := by rw [← hwe]; exact KeyAt.new w k
  obtain ⟨x, hx⟩ : ∃ x, g.pm k = some x := by
    have := h.seen k hk
    rw [ho] at this
    cases hp : g.pm k with
    | none => rw [hp] at this; exact this.elim
    | some x => exact ⟨x, rfl⟩
  have HFD := Lib.hid (find_any w1 b g S (h.later hb1) k hk)
  rw [hx] at HFD
  have e : findR S k (some x) = .tuple #[.pointer (some ⟨x, 0, .none⟩), .int .i64 0] := by simp [findR, hwhy, ptrV]
  rw [e] at HFD
  obtain ⟨k0, k1, k2, k3⟩ := hK.cells
  have H := Lib.hid (h.later hb1)
  have HB := Lib.hid hb1
  have HK := Lib.hid hK
  have HR := Lib.hid (hr.later hb1)
  clear h hb1 hK hr e
  unfold kv at HFD ⊢
  go_enter Try.func12, Try.ntmps12
  go_upto_region 1 with fail
  clear hwe
  go_wp2_with fail
  refine HFD.out.mono ?_
  rintro e w2 ⟨rfl, hb2⟩
  clear HFD k0 k1 k2 k3
  have H2 := Lib.hid (H.out.later hb2)
  have HB2 := Lib.hid (HB.out.trans (hb2.mono HB.out.size))
  have HK2 := Lib.hid (HK.out.later hb2)
  have HR2 := Lib.hid (HR.out.later hb2)
  clear H HB HK HR hb2
  have hox := H2.out.seen k hk
  rw [hx, ho] at hox
  obtain ⟨bv, av, hob⟩ := hox
  obtain ⟨aa, ca, rfl, _, _⟩ := hob.row.row
  have c0 : w2.cell? ⟨x, 0, .none⟩ = some (.slice aa o.bytes.length ca) := cell_of_block hob.heap rfl
  obtain ⟨k0, k1, k2, k3⟩ := HK2.out.cells
  clear hob
  have HSW := Lib.hid (fun w3 (hb3 : Below w2.heap.size w2 w3) => swrite_any w3 b g S (H2.out.later hb3) k hk x hx o ho o.bytes.length (by have := (hS.seen k o ho).1; omega) ad cap n l (HR2.out.later hb3) hl hn hS m hsm hm hu)
  unfold kv at HSW
  rw [hR] at HSW
  clear hR hS hsm hu hx ho hl hn
  go_upto_region 4 with fail
  go_still_tail 9, (by kernel_rfl)
  change wpList _ _ _ _ _ w2.drew
  have hb3 : Below w2.heap.size w2 w2.drew := (Below.refl _ _).drew
  generalize w2.drew = w3 at hb3 ⊢
  go_wp2_with fail
  refine (HSW.out w3 hb3).mono ?_
  rintro e w4 ⟨rfl, g', a1, a2⟩
  have HST := Lib.hid (And.intro a1 a2)
  have HB3 := Lib.hid hb3
  clear a1 a2 hb3
  go_wp2_with fail
  go_ret
  exact ⟨rfl, g', HST.out.1, (Fr.of_below (HB2.out.trans (HB3.out.mono HB2.out.size)) g.r ours).trans HST.out.2⟩
set_option maxRecDepth 20000 in
theorem write_any (w : World) (b : Nat) (g : Gh) (S : St) (h : Sto w b g S) (k : K4) (hk : k.ok) (o : Ob) (ho : S.seen k = some o) (hwhy : whyNot S k = 0) (off : Int) (hof : -9223372036854775808 ≤ off ∧ off ≤ 9223372036854775807) (ad : Option Addr) (cap n : Nat) (l : List UInt8) (hr : Row w ad cap l) (hl : l.length = n) (hn : n ≤ 100000)
    (hS : S.WF) (m : Nat) (hsm : S.Sm m) (hm : m ≤ 100000) (hu : 0 ≤ S.used) :
    Calls Try.prog 31 #[.pointer (some ⟨b, 0, .none⟩), kv k, .int .i64 off, .slice ad n cap] w fun e w' =>
      e = .returned (.int .i64 (S.wr k o off l).1) ∧ ∃ g', Sto w' b g' (S.wr k o off l).2 ∧ Fr w w' g.r g'.r ours := by
  obtain ⟨R, hR⟩ : ∃ R, S.wr k o off l = R := ⟨_, rfl⟩
  rw [hR]
  obtain ⟨w1, hwe⟩ : ∃ w1, w.alloc (.cells #[.int .i64 k.a, .int .i64 k.b, .int .i64 k.c, .int .i64 k.d] 27) = w1 := ⟨_, rfl⟩
  have hb1 : Below w.heap.size w w1 := by rw [← hwe]; exact (Below.refl _ _).alloc (Nat.le_refl _) _
  have hK : KeyAt w1 w.heap.size k := by rw [← hwe]; exact KeyAt.new w k
  obtain ⟨x, hx⟩ : ∃ x, g.pm k = some x := by
    have := h.seen k hk
    rw [ho] at this
    cases hp : g.pm k with
    | none => rw [hp] at this; exact this.elim
    | some x => exact ⟨x, rfl⟩
  have HFD := Lib.hid (find_any w1 b g S (h.later hb1) k hk)
  rw [hx] at HFD
  have e : findR S k (some x) = .tuple #[.pointer (some ⟨x, 0, .none⟩), .int .i64 0] := by simp [findR, hwhy, ptrV]
  rw [e] at HFD
  obtain ⟨k0, k1, k2, k3⟩ := hK.cells
  have H := Lib.hid (h.later hb1)
  have HB := Lib.hid hb1
  have HK := Lib.hid hK
  have HR := Lib.hid (hr.later hb1)
  clear h hb1 hK hr e
  unfold kv at HFD ⊢
  go_enter Try.func31, Try.ntmps31
  go_upto_region 1 with fail
  clear hwe
  go_wp2_with fail
  refine HFD.out.mono ?_
  rintro e w2 ⟨rfl, hb2⟩
  clear HFD k0 k1 k2 k3
  have H2 := Lib.hid (H.out.later hb2)
  have HB2 := Lib.hid (HB.out.trans (hb2.mono HB.out.size))
  have HK2 := Lib.hid (HK.out.later hb2)
  have HR2 := Lib.hid (HR.out.later hb2)
  clear H HB HK HR hb2
  obtain ⟨k0, k1, k2, k3⟩ := HK2.out.cells
  have HSW := Lib.hid (swrite_any w2 b g S H2.out k hk x hx o ho off hof ad cap n l HR2.out hl hn hS m hsm hm hu)
  unfold kv at HSW
  rw [hR] at HSW
  clear hR hS hsm hu hx ho hl hn
  go_wp2_with fail
  refine HSW.out.mono ?_
  rintro e w4 ⟨rfl, g', a1, a2⟩
  have HST := Lib.hid (And.intro a1 a2)
  clear a1 a2
  go_wp2_with fail
  go_ret
  exact ⟨rfl, g', HST.out.1, (Fr.of_below HB2.out g.r ours).trans HST.out.2⟩

set_option maxRecDepth 20000 in
theorem make_any (w : World) (b : Nat) (g : Gh) (S : St) (h : Sto w b g S) (k : K4) (hk : k.ok) (ho : S.seen k = .none) (hwhy : whyNot S k = 0) (hsl : S.sks.length < 2000)
    (hS : S.WF) (m : Nat) (hsm : S.Sm m) (hm : m ≤ 100000) :
    Calls Try.prog 10 #[.pointer (some ⟨b, 0, .none⟩), kv k] w fun e w' =>
      e = .returned (.int .i64 0) ∧ ∃ g', Sto w' b g' (S.did k ⟨0, 0, [], []⟩) ∧ Fr w w' g.r g'.r ours := by
  obtain ⟨R, hR⟩ : ∃ R, S.did k ⟨0, 0, [], []⟩ = R := ⟨_, rfl⟩
  rw [hR]
  obtain ⟨w1, hwe⟩ : ∃ w1, w.alloc (.cells #[.int .i64 k.a, .int .i64 k.b, .int .i64 k.c, .int .i64 k.d] 27) = w1 := ⟨_, rfl⟩
  have hb1 : Below w.heap.size w w1 := by rw [← hwe]; exact (Below.refl _ _).alloc (Nat.le_refl _) _
  have hK : KeyAt w1 w.heap.size k := by rw [← hwe]; exact KeyAt.new w k
  have hx : g.pm k = .none := by
    have := h.seen k hk
    rw [ho] at this
    cases hp : g.pm k with
    | none => rfl
    | some x => rw [hp] at this; exact this.elim
  have HRF := Lib.hid (refused_any w1 b g S (h.later hb1) k)
  rw [hwhy] at HRF
  obtain ⟨k0, k1, k2, k3⟩ := hK.cells
  have H := Lib.hid (h.later hb1)
  have HB := Lib.hid hb1
  have HK := Lib.hid hK
  clear h hb1 hK
  unfold kv at HRF ⊢
  go_enter Try.func10, Try.ntmps10
  go_upto_region 1 with fail
  clear hwe
  go_wp2_with fail
  refine HRF.out.mono ?_
  rintro e w2 ⟨rfl, hb2⟩
  clear HRF k0 k1 k2 k3
  have H2 := Lib.hid (H.out.later hb2)
  have HB2 := Lib.hid (HB.out.trans (hb2.mono HB.out.size))
  have HK2 := Lib.hid (HK.out.later hb2)
  clear H HB HK hb2
  obtain ⟨k0, k1, k2, k3⟩ := HK2.out.cells
  have c2 : w2.cell? ⟨b, 2, .none⟩ = some g.sv := cell_of_block H2.out.heap rfl
  have hlk := PMap.look (w := w2.drew) (H2.out.sm.keep fun _ _ _ => rfl) Try.underlying61 zero_ptr_ob hk
  rw [hx] at hlk
  unfold kv at hlk
  simp only [ptrV, Option.map] at hlk
  have hln : ∀ ty, (Builtin.len_ #[61] ty #[g.sv]).run Try.prog w2.drew = .ok (.int .i64 S.sks.length) w2.drew := fun ty => PMap.len (w := w2.drew) (H2.out.sm.keep fun _ _ _ => rfl) Try.underlying61 ty
  go_upto_region 4 with fail
  go_region
  simp only [Exit.then]
  clear hlk
  have hdo : ∀ (a : Option Addr), a = .none → Shr w2.drew g.r (.slice .none 0 0) [] := fun a _ => ⟨.none, 0, rfl, Row.none _, fun x h => by cases h⟩
  have HDO := Lib.hid (do_any w2.drew b g S (H2.out.later (Below.refl _ _).drew) k hk ⟨0, 0, [], []⟩ (.slice .none 0 0) (hdo .none rfl) hS m hsm (by omega) (.inl rfl))
  unfold kv deedV at HDO
  rw [hR] at HDO
  clear hR hdo hS hsm
  go_upto_region 6 with fail
  go_wp2_with fail
  refine HDO.out.mono ?_
  rintro e w4 ⟨rfl, g', a1, a2⟩
  have HST := Lib.hid (And.intro a1 a2)
  clear a1 a2
  go_wp2_with fail
  go_ret
  exact ⟨rfl, g', HST.out.1, (Fr.of_below (HB2.out.trans (((Below.refl _ _).drew).mono HB2.out.size)) g.r ours).trans HST.out.2⟩
end Go.Proofs.Ytgjdabneodkmpaa
