/- An attribute set in a store. -/
import Derived.Test.YtgjdabneodkmpaaStE
namespace Go.Proofs.Ytgjdabneodkmpaa
open Go.RowKit
set_option linter.unusedVariables false

def deedS (s : ByteArray) (dv : Value) : Value := .agg #[.int .i64 4, .int .i64 0, .string s, dv]
theorem deedS_eq (nm l : List UInt8) (dv : Value) : deedV ⟨4, 0, nm, l⟩ dv = deedS ⟨nm.toArray⟩ dv := rfl
def gsV (N : Nat) (s : ByteArray) (l : List UInt8) : SV := ⟨fun w v => ∃ dv, v = deedS s dv ∧ (clV N l).p w dv, fun w w' v ⟨dv, h1, h2⟩ hb => ⟨dv, h1, (clV N l).st _ _ _ h2 hb⟩⟩
def St.setA (S : St) (k : K4) (o : Ob) (nm l : List UInt8) : Int × St :=
  if nm.length = 0 ∨ nm.length > 20 ∨ l.length > 4096 then (1, S) else if growA o.attrs nm l > max (S.room - S.used) 0 then (6, S) else (0, S.did k ⟨4, 0, nm, l⟩)

set_option maxRecDepth 20000 in
theorem sset_any (w : World) (b : Nat) (g : Gh) (S : St) (h : Sto w b g S) (k : K4) (hk : k.ok) (o : Ob) (ho : S.seen k = some o) (hwhy : whyNot S k = 0) (nm : List UInt8) (ad : Option Addr) (cap n : Nat) (l : List UInt8) (hr : Row w ad cap l) (hl : l.length = n) (hn : n ≤ 100000) (hnm : nm.length ≤ 100000)
    (hS : S.WF) (m : Nat) (hsm : S.Sm m) (hm : m ≤ 100000) (hu : 0 ≤ S.used) :
    Calls Try.prog 50 #[.pointer (some ⟨b, 0, .none⟩), kv k, .string ⟨nm.toArray⟩, .slice ad n cap] w fun e w' =>
      e = .returned (.int .i64 (S.setA k o nm l).1) ∧ ∃ g', Sto w' b g' (S.setA k o nm l).2 ∧ Fr w w' g.r g'.r ours := by
  obtain ⟨R, hR⟩ : ∃ R, S.setA k o nm l = R := ⟨_, rfl⟩
  rw [hR]
  obtain ⟨s, hs⟩ : ∃ s : ByteArray, ⟨nm.toArray⟩ = s := ⟨_, rfl⟩
  have hsd : s.data.toList = nm := by rw [← hs]
  have hsz : s.size = nm.length := by rw [← hs]; show nm.toArray.size = _; simp
  rw [hs]
  obtain ⟨w1, hwe⟩ : ∃ w1, w.alloc (.cells #[.int .i64 k.a, .int .i64 k.b, .int .i64 k.c, .int .i64 k.d] 27) = w1 := ⟨_, rfl⟩
  have hb1 : Below w.heap.size w w1 := by rw [← hwe]; exact (Below.refl _ _).alloc (Nat.le_refl _) _
  have hK : KeyAt w1 w.heap.size k := by rw [← hwe]; exact KeyAt.new w k
  obtain ⟨x, hx⟩ : ∃ x, g.pm k = some x := by
    have := h.seen k hk
    rw [ho] at this
    cases hp : g.pm k with
    | none => rw [hp] at this; exact this.elim
    | some x => exact ⟨x, rfl⟩
  have HFD := Lib.hid (find_any w1 b g S (h.later hb1) k hk)
  rw [hx] at HFD
  have e : findR S k (some x) = .tuple #[.pointer (some ⟨x, 0, .none⟩), .int .i64 0] := by simp [findR, hwhy, ptrV]
  rw [e] at HFD
  obtain ⟨k0, k1, k2, k3⟩ := hK.cells
  have H := Lib.hid (h.later hb1)
  have HB := Lib.hid hb1
  have HK := Lib.hid hK
  have HR := Lib.hid (hr.later hb1)
  clear h hb1 hK hr e
  obtain ⟨q, hq⟩ : ∃ q, s.size = q := ⟨_, rfl⟩
  have hqn : nm.length = q := by omega
  unfold kv at HFD ⊢
  go_enter Try.func50, Try.ntmps50
  go_upto_region 1 with fail
  clear hwe
  go_wp2_with fail
  refine HFD.out.mono ?_
  rintro e wf ⟨rfl, hb2⟩
  clear HFD k0 k1 k2 k3
  have H1 := Lib.hid (H.out.later hb2)
  have HB1 := Lib.hid (HB.out.trans (hb2.mono HB.out.size))
  have HK1 := Lib.hid (HK.out.later hb2)
  have HR1 := Lib.hid (HR.out.later hb2)
  clear H HB HK HR hb2
  by_cases hbad : q = 0 ∨ q > 20 ∨ n > 4096
  · have HW : Hid (R = (1, S)) := Lib.hid (by rw [← hR]; unfold St.setA; rw [if_pos (by rw [hqn, hl]; exact hbad)])
    clear hR hS hsm hu hx ho hl hqn hsd hsz
    rcases (by omega : q = 0 ∨ (q ≠ 0 ∧ q > 20) ∨ (q ≠ 0 ∧ ¬ q > 20 ∧ n > 4096)) with h1 | ⟨h1, h2⟩ | ⟨h1, h2, h3⟩
    all_goals
      go_wp2_with fail
      go_ret
      rw [HW.out]
      exact ⟨rfl, g, H1.out, Fr.of_below HB1.out _ _⟩
  · have hox := H1.out.seen k hk
    rw [hx, ho] at hox
    have hnmd := hsm.named k o ho
    obtain ⟨za, hza⟩ : ∃ z, AttrSum o.attrs o.named z := by obtain ⟨bv, av, hob⟩ := hox; exact hob.attrs.sum
    have hle := (hza.le nm).1
    have HG := Lib.hid (attrGrowth_any wf g.r false k x o hox s (by omega) ad n cap l hl (by omega) (by rw [hsd]; omega))
    rw [hsd] at HG
    have hnn : 0 ≤ o.named + growA o.attrs nm l := (hza.set nm l).nn
    have HC : Hid (canD ⟨4, 0, nm, l⟩ (S.seen k)) := Lib.hid (.inr (.inr (.inr (.inr ⟨rfl, by rw [ho]; rfl, by show nm.length ≤ 20; omega, by show l.length ≤ 4096; omega, fun o' ho' => by
      rw [ho] at ho'; cases ho'; exact ⟨hnn, by omega⟩⟩))))
    have HLF := Lib.hid (fun W (hW : Below wf.heap.size wf W) => left_any W b g S (H1.out.later hW) ⟨hS.room.2, hS.room.1⟩ ⟨hu, by have := hsm.used; omega⟩)
    obtain ⟨gr, hgr⟩ : ∃ gr, growA o.attrs nm l = gr := ⟨_, rfl⟩
    obtain ⟨lf, hlf⟩ : ∃ lf, max (S.room - S.used) 0 = lf := ⟨_, rfl⟩
    rw [hgr] at HG
    rw [hlf] at HLF
    have HWc : Hid (R = if gr > lf then (6, S) else (0, S.did k ⟨4, 0, nm, l⟩)) := Lib.hid (by rw [← hR]; unfold St.setA; rw [if_neg (by rw [hqn, hl]; exact hbad), hgr, hlf])
    have HS := Lib.hid hS
    have HSM := Lib.hid hsm
    have HN := Lib.hid hl
    have HSE := Lib.hid hs
    have hq0 : q ≠ 0 := by omega
    have hq20 : ¬ q > 20 := by omega
    have hn4 : ¬ n > 4096 := by omega
    have b0 : ((q : Int) == 0) = false := by rw [beq_eq_false_iff_ne]; omega
    have b1 : decide (20 < (q : Int)) = false := by rw [decide_eq_false_iff_not]; omega
    have b2 : decide (4096 < (n : Int)) = false := by rw [decide_eq_false_iff_not]; omega
    clear hq0 hq20 hn4
    clear hR hS hsm hu hx ho hl hqn hsd hsz hox hnmd hza hle hnn hgr hlf hbad hs
    go_wp2_with fail
    refine HG.out.mono ?_
    rintro e wg ⟨rfl, qq, rfl⟩
    clear HG
    have hbg : Below wf.heap.size wf (wf.drewN qq) := below_drewN wf qq
    obtain ⟨wg, hwg⟩ : ∃ W, wf.drewN qq = W := ⟨_, rfl⟩
    rw [hwg] at hbg ⊢
    clear hwg
    have HBG := Lib.hid hbg
    clear hbg
    go_wp2_with fail
    refine (HLF.out wg HBG.out).mono ?_
    rintro e w2 ⟨rfl, hb2⟩
    clear HLF
    have hb3 : Below wf.heap.size wf w2 := HBG.out.trans (hb2.mono HBG.out.size)
    have H2 := Lib.hid (H1.out.later hb3)
    have HB := Lib.hid (HB1.out.trans (hb3.mono HB1.out.size))
    have HK2 := Lib.hid (HK1.out.later hb3)
    have HR := Lib.hid (HR1.out.later hb3)
    clear hb2 hb3 H1 HB1 HK1 HR1 HBG
    by_cases hgl : gr > lf
    · have HW : Hid (R = (6, S)) := Lib.hid (by rw [HWc.out, if_pos hgl])
      go_wp2_with fail
      go_ret
      rw [HW.out]
      exact ⟨rfl, g, H2.out, Fr.of_below HB.out _ _⟩
    · obtain ⟨S', hS'⟩ : ∃ S', S.did k ⟨4, 0, nm, l⟩ = S' := ⟨_, rfl⟩
      have HW : Hid (R = (0, S')) := Lib.hid (by rw [HWc.out, if_neg hgl, hS'])
      have HDO : Hid (∀ w1, Below w2.heap.size w2 w1 → ∀ v2, (clV w2.heap.size l).p w1 v2 → Calls Try.prog 34 #[.pointer (some ⟨b, 0, .none⟩), .agg #[.int .i64 k.a, .int .i64 k.b, .int .i64 k.c, .int .i64 k.d], deedS s v2] w1 fun e w' =>
          e = .returned (.int .i64 0) ∧ ∃ g', Sto w' b g' S' ∧ Fr w1 w' g.r g'.r ours) := Lib.hid (by
        intro w1 hJ v2 m2
        have := do_any w1 b g S (H2.out.later hJ) k hk ⟨4, 0, nm, l⟩ v2 (clV_shr m2 H2.out.dom) HS.out m HSM.out hm HC.out
        rw [deedS_eq, HSE.out, hS'] at this
        exact this)
      clear hS' HC HS HSM HSE HWc
      go_upto_region 8 with fail
-- REG SE8
      refine wp_region_ptab (L := fun ph => match ph with | 0 => [cV (.pointer (some ⟨b, 0, .none⟩)), cV (.agg #[.int .i64 k.a, .int .i64 k.b, .int .i64 k.c, .int .i64 k.d]), cV (.string s), cV (.slice ad n cap), clV w2.heap.size l, gsV w2.heap.size s l, cV (.int .i64 0), cV (.int .i64 0)] | _ => [cV (.pointer (some ⟨b, 0, .none⟩)), cV (.agg #[.int .i64 k.a, .int .i64 k.b, .int .i64 k.c, .int .i64 k.d]), cV (.string s), cV (.slice ad n cap), tV, tV, cV (.int .i64 0), cV (.int .i64 0)]) (jE w2 b g S') [6] [(0, 0), (0, 0), (0, 0), (0, 0), (0, 0), (0, 0), (0, 1), (1, 1)] [[(0, none)], [(5, none)], [(2, none)], [(3, none)], [(43, some 3)], [(42, some 2), (44, some 4)], [(40, some 0), (41, some 1), (45, some 5)], [(46, some 6)]] 8 1 47 (by kernel_rfl) rfl rfl rfl (by kernel_rfl) (by kernel_rfl) (by decide) (by kernel_rfl) ?_ ?_ ?_ ?_ ?_
      · exact fun ph w1 w2 h hb => jE_st ph h hb
      · exact Below.refl _ _
      · show ∀ i, i < 8 → _
        iterate 8 (refine fls ?_ ?_)
        · exact fl0
        · intro hne lo hi ph hran hp1 hp2 a w1 hJ hsz hs      -- 0: slot 40
          obtain ⟨rfl, rfl⟩ : 0 = lo ∧ 0 = hi := Prod.mk.inj (Option.some.inj hran)
          obtain rfl : ph = 0 := by omega
          obtain ⟨h0, _⟩ := hs
          have h0 : a.tmps.getD 0 undef = .pointer (some ⟨b, 0, .none⟩) := h0
          refine op_run rfl rfl (v := .pointer (some ⟨b, 0, .none⟩)) (w' := w1) ?_ rfl (Below.refl _ _)
          simp [execOp, Act.eval, h0, go_sem]
        · intro hne lo hi ph hran hp1 hp2 a w1 hJ hsz hs      -- 1: slot 41
          obtain ⟨rfl, rfl⟩ : 0 = lo ∧ 0 = hi := Prod.mk.inj (Option.some.inj hran)
          obtain rfl : ph = 0 := by omega
          obtain ⟨h0, _⟩ := hs
          have h0 : a.tmps.getD 5 undef = .pointer (some ⟨w.heap.size, 0, .none⟩) := h0
          obtain ⟨c, c', c'', c'''⟩ := KeyAt.cells (HK2.out.later hJ)
          refine op_run rfl rfl (v := .agg #[.int .i64 k.a, .int .i64 k.b, .int .i64 k.c, .int .i64 k.d]) (w' := w1) ?_ rfl (Below.refl _ _)
          simp [execOp, Act.eval, h0, c, c', c'', c''', go_sem]
        · intro hne lo hi ph hran hp1 hp2 a w1 hJ hsz hs      -- 2: slot 42
          obtain ⟨rfl, rfl⟩ : 0 = lo ∧ 0 = hi := Prod.mk.inj (Option.some.inj hran)
          obtain rfl : ph = 0 := by omega
          obtain ⟨h0, _⟩ := hs
          have h0 : a.tmps.getD 2 undef = .string s := h0
          refine op_run rfl rfl (v := .string s) (w' := w1) ?_ rfl (Below.refl _ _)
          simp [execOp, Act.eval, h0, go_sem]
        · intro hne lo hi ph hran hp1 hp2 a w1 hJ hsz hs      -- 3: slot 43
          obtain ⟨rfl, rfl⟩ : 0 = lo ∧ 0 = hi := Prod.mk.inj (Option.some.inj hran)
          obtain rfl : ph = 0 := by omega
          obtain ⟨h0, _⟩ := hs
          have h0 : a.tmps.getD 3 undef = .slice ad n cap := h0
          refine op_run rfl rfl (v := .slice ad n cap) (w' := w1) ?_ rfl (Below.refl _ _)
          simp [execOp, Act.eval, h0, go_sem]
        · intro hne lo hi ph hran hp1 hp2 a w1 hJ hsz hs      -- 4: slot 44
          obtain ⟨rfl, rfl⟩ : 0 = lo ∧ 0 = hi := Prod.mk.inj (Option.some.inj hran)
          obtain rfl : ph = 0 := by omega
          obtain ⟨h0, _⟩ := hs
          have h0 : a.tmps.getD 43 undef = .slice ad n cap := h0
          refine op_call rfl rfl (f := 45) (args := #[.slice ad n cap]) (by simp [execOp, Act.eval, resolve, h0, go_sem]) ?_
          exact (clone_any ad n cap l w1 (HR.out.later hJ) HN.out (by omega)).mono (fun e w' ⟨v, h1, ho⟩ => ⟨v, h1, clV_of ho (Below.size hJ), ho.below⟩)
        · intro hne lo hi ph hran hp1 hp2 a w1 hJ hsz hs      -- 5: slot 45
          obtain ⟨rfl, rfl⟩ : 0 = lo ∧ 0 = hi := Prod.mk.inj (Option.some.inj hran)
          obtain rfl : ph = 0 := by omega
          obtain ⟨h0, h1, _⟩ := hs
          have h0 : a.tmps.getD 42 undef = .string s := h0
          have g0 : a.tmps[42]?.getD undef = .string s := (Array.getD_eq_getD_getElem? ..).symm.trans h0
          obtain ⟨v1, e1, m1⟩ : ∃ v, a.tmps.getD 44 undef = v ∧ (clV w2.heap.size l).p w1 v := ⟨_, rfl, h1⟩
          obtain ⟨aa, ca, hm0, hm1⟩ := m1
          subst hm0
          have e1 : a.tmps[44]?.getD undef = .slice aa l.length ca := by rw [← e1]; exact (Array.getD_eq_getD_getElem?).symm
          have h0 : a.tmps[42]?.getD undef = .string s := by rw [← h0]; exact (Array.getD_eq_getD_getElem?).symm
          refine op_run rfl rfl (v := deedS s (.slice aa l.length ca)) (w' := w1) ?_ ⟨_, rfl, aa, ca, rfl, hm1⟩ (Below.refl _ _)
          unfold deedS
          simp [execOp, Act.eval, h0, e1, go_sem]
        · intro hne lo hi ph hran hp1 hp2 a w1 hJ hsz hs      -- 6: slot 46
          exact absurd (by decide) hne
        · intro hne lo hi ph hran hp1 hp2 a w1 hJ hsz hs      -- 7: slot 8
          obtain ⟨rfl, rfl⟩ : 1 = lo ∧ 1 = hi := Prod.mk.inj (Option.some.inj hran)
          obtain rfl : ph = 1 := by omega
          obtain ⟨h0, _⟩ := hs
          have h0 : a.tmps.getD 46 undef = .int .i64 0 := h0
          refine op_run rfl rfl (v := .int .i64 0) (w' := w1) ?_ rfl (Below.refl _ _)
          simp [execOp, Act.eval, h0, go_sem]
      · show ∀ ph, ph < 1 → _
        iterate 1 (refine fls ?_ ?_)
        · exact fl0
        · intro i hi a w1 hJ hsz hs      -- heavy 0: op 6 slot 46
          obtain rfl : 6 = i := Option.some.inj hi
          obtain ⟨h0, h1, h2, _⟩ := hs
          have h0 : a.tmps.getD 40 undef = .pointer (some ⟨b, 0, .none⟩) := h0
          have h1 : a.tmps.getD 41 undef = .agg #[.int .i64 k.a, .int .i64 k.b, .int .i64 k.c, .int .i64 k.d] := h1
          obtain ⟨v2, h2, m2⟩ := h2
          have hcalm : ∀ (wq1 wq2 : World) (kk : Nat) (v0 : Value), kk ≠ 6 → VL [cV (.pointer (some ⟨b, 0, .none⟩)), cV (.agg #[.int .i64 k.a, .int .i64 k.b, .int .i64 k.c, .int .i64 k.d]), cV (.string s), cV (.slice ad n cap), clV w2.heap.size l, gsV w2.heap.size s l, cV (.int .i64 0), cV (.int .i64 0)] kk wq1 v0 → VL [cV (.pointer (some ⟨b, 0, .none⟩)), cV (.agg #[.int .i64 k.a, .int .i64 k.b, .int .i64 k.c, .int .i64 k.d]), cV (.string s), cV (.slice ad n cap), tV, tV, cV (.int .i64 0), cV (.int .i64 0)] kk wq2 v0 := Calm.all (n := 0) ⟨.inl ⟨_, rfl, rfl⟩, .inl ⟨_, rfl, rfl⟩, .inl ⟨_, rfl, rfl⟩, .inl ⟨_, rfl, rfl⟩, .inr (.inl rfl), .inr (.inl rfl), .inr (.inr rfl), .inl ⟨_, rfl, rfl⟩, trivial⟩
          refine hv_call rfl rfl (f := 34) (args := #[.pointer (some ⟨b, 0, .none⟩), .agg #[.int .i64 k.a, .int .i64 k.b, .int .i64 k.c, .int .i64 k.d], deedS s v2]) (by simp [execOp, Act.eval, resolve, h0, h1, h2, go_sem]) ?_
          refine (HDO.out w1 hJ v2 m2).mono ?_
          rintro e w' ⟨rfl, g', a1, a2⟩
          exact ⟨_, rfl, rfl, ⟨g', a1, (Fr.of_below hJ g.r _).trans a2⟩, hcalm _ _⟩
      · intro f w1 hJ hv
        try simp only [Exit.then]
        simp only [putAll, List.foldl_cons, List.foldl_nil, Option.getD_some, Act.put, List.setIfInBounds_toArray, List.set_cons_succ, List.set_cons_zero]
        have e10 : f 8 = .int .i64 0 := hv 7 _ 8 rfl rfl
        clear hv
        obtain ⟨g3, h3, hf3⟩ := hJ
        have HST := Lib.hid (And.intro h3 hf3)
        clear h3 hf3
        go_wp2_with fail
        go_ret
        refine ⟨?_, g3, ?_, (Fr.of_below HB.out g.r ours).trans HST.out.2⟩
        · rw [HW.out]; exact congrArg Ending.returned e10
        · rw [HW.out]; exact HST.out.1
-- END SE8
end Go.Proofs.Ytgjdabneodkmpaa
