/- Images: the document's own Apply of an Unsnap. -/
import Derived.Test.YtghglbaflmbeoaaMdJ
namespace Go.Proofs.Ytghglbaflmbeoaa
open Go.RowKit Go.Proofs
set_option linter.unusedVariables false
set_option linter.unusedSimpArgs false
set_option linter.unnecessarySimpa false

-- HEAD
set_option maxRecDepth 20000 in
set_option maxHeartbeats 12800000 in
theorem rapply14_k6 (d v : Value) (s : Sx) (k o m : Int) (a : Option Addr) (n c : Nat) (l : List UInt8) (T : ByteArray) (J : Nat → Prop) (w : World) (hJ : NewJ J w) (h : StA J w d v s) (hr : Row w a c l) (hn : l.length = n) (hT : T.size ≤ 9223372036854775807) (hb1 : s.data.length ≤ 100000) (hb2 : s.snaps.length ≤ 100000) (hkk : checkM s ⟨k, o, m, l, T.data.toList⟩ = 0 → k = 6) :
    Calls Try.prog 17 #[.agg #[d, v], .agg #[.int .i64 k, .int .i64 o, .int .i64 m, .slice a n c, .string T]] w fun e w' => ApplyIs J w s ⟨k, o, m, l, T.data.toList⟩ e w' := by
  obtain ⟨a1, c1, a2, c2, rfl, rfl, rd, rs⟩ := h.open
  obtain ⟨X2, X3, X4, B3⟩ := three_recsS w #[.slice a1 s.data.length c1, .slice a2 s.snaps.length c2] #[.int .i64 k, .int .i64 o, .int .i64 m, .slice a n c, .string T] zeroSt 28 33 28
  obtain ⟨wa, hwo⟩ : ∃ W, (((w.alloc (.cells #[.slice a1 s.data.length c1, .slice a2 s.snaps.length c2] 28)).alloc (.cells #[.int .i64 k, .int .i64 o, .int .i64 m, .slice a n c, .string T] 33)).alloc (.cells zeroSt 28)) = W := ⟨_, rfl⟩
  rw [hwo] at X2 X3 X4 B3
  have HCK := Lib.hid (fun W (hb : Below wa.heap.size wa W) => rcheck14_any (.slice a1 s.data.length c1) (.slice a2 s.snaps.length c2) s o m a n c l T J W k ((h.later B3).later hb) ((hr.later B3).later hb) hn hT)
  obtain ⟨nd, hnd⟩ : ∃ z, s.data.length = z := ⟨_, rfl⟩
  obtain ⟨ns, hns⟩ : ∃ z, s.snaps.length = z := ⟨_, rfl⟩
  rw [hnd] at X2 hwo HCK ⊢
  rw [hns] at X2 hwo rs HCK ⊢
  have HX2a := Lib.hid X2
  have HX3a := Lib.hid X3
  have HX4a := Lib.hid X4
  have HB3 := Lib.hid B3
  have HN1 : Hid (nd ≤ 1000000) := Lib.hid (by omega)
  have HN2 : Hid (ns ≤ 1000000) := Lib.hid (by omega)
  have HN3 : Hid (nd ≤ 100000 ∧ ns ≤ 100000) := Lib.hid ⟨by omega, by omega⟩
  have HND := Lib.hid hnd
  have HNS := Lib.hid hns
  have HRDa := Lib.hid (rd.later B3)
  have HRSa := Lib.hid (rs.later od_rel B3)
  have HEVa := Lib.hid (hr.later B3)
  have HN := Lib.hid hn
  have HJ := Lib.hid hJ
  obtain ⟨hl1, hl2⟩ := rs.lim
  obtain ⟨ev, hev⟩ : ∃ z, (⟨k, o, m, l, T.data.toList⟩ : Ev) = z := ⟨_, rfl⟩
  have HKK := Lib.hid hkk
  rw [hev] at HCK HKK ⊢
  have HEVE := Lib.hid hev
  have HROa := Lib.hid ((rs.weak od_rel (J' := oldJ J w) fun b hb hj => ⟨hj, hb⟩).later od_rel B3)
  obtain ⟨JO, hJO⟩ : ∃ JO, oldJ J w = JO := ⟨_, rfl⟩
  have HJO : Hid (∀ b, JO b → b < w.heap.size ∧ J b) := Lib.hid (by rw [← hJO]; exact fun b hb => ⟨hb.2, hb.1⟩)
  rw [hJO] at HROa
  have HWS := Lib.hid X4.lt
  clear X2 X3 X4 B3 rd rs h hr hn hnd hns hJ hb1 hb2 hev hJO hkk
  go_enter Try.func17, Try.ntmps17
  go_upto_region 1 with fail
  try rw [hwo]
  clear hwo
  obtain ⟨X, hX⟩ : ∃ X, w.heap.size = X := ⟨_, rfl⟩
  simp only [hX] at HX2a HX3a HX4a HJO HWS ⊢
  have HXS := Lib.hid hX
  clear hX
  obtain ⟨x0, x1⟩ := HX2a.out.c2
  obtain ⟨y0, y1, y2, y3, y4⟩ := HX3a.out.c5
  obtain ⟨CK, hCK⟩ : ∃ z, checkM s ev = z := ⟨_, rfl⟩
  rw [hCK] at HCK HKK
  have HCKE := Lib.hid hCK
  clear hCK
  go_wp2_with fail
  refine (HCK.out wa (Below.refl _ _)).mono ?_
  rintro e wo ⟨rfl, b2⟩
  have HB2 := Lib.hid (HB3.out.trans (b2.mono HB3.out.size))
  have HX2 := Lib.hid (HX2a.out.later b2)
  have HX3 := Lib.hid (HX3a.out.later b2)
  have HX4 := Lib.hid (HX4a.out.later b2)
  have HRD := Lib.hid (HRDa.out.later b2)
  have HRS := Lib.hid (HRSa.out.later od_rel b2)
  have HEV := Lib.hid (HEVa.out.later b2)
  have HRO := Lib.hid (HROa.out.later od_rel b2)
  have HWO : Hid (X + 2 < wo.heap.size) := Lib.hid (Nat.lt_of_lt_of_le HWS.out b2.size)
  clear b2 x0 x1 y0 y1 y2 y3 y4 HCK HX2a HX3a HX4a HRDa HRSa HEVa HROa HWS
  by_cases hc0 : CK = 0
  · have hcn : (CK != 0) = false := by simp [hc0]
    have HAP : Hid (applyM s ev = (doneM s ev, 0)) := Lib.hid (applyM_yes (by rw [HCKE.out]; exact hc0))
    have hc0' : CK = 0 := hc0
    clear hc0
    go_upto_region 4 with fail
    clear hcn
    have ub0 := Try.underlying28
    -- REG A4
    refine wp_region_ptabW (L := fun ph => match ph with | 0 => [ebV wo, cV (.pointer (some ⟨X, 0, none⟩)), cV (.slice a1 nd c1), obV wo s.data, eoV wo, cV (.pointer (some ⟨X, 1, none⟩)), cV (.slice a2 ns c2), ooV JO wo s.snaps, agV JO wo s, zsV wo, tV] | _ => [tV, cV (.pointer (some ⟨X, 0, none⟩)), cV (.slice a1 nd c1), tV, tV, cV (.pointer (some ⟨X, 1, none⟩)), cV (.slice a2 ns c2), tV, tV, rsV JO wo s, tV]) (fun _ wq => Below wo.heap.size wo wq) [10] [(0, 0), (0, 0), (0, 0), (0, 0), (0, 0), (0, 0), (0, 0), (0, 0), (0, 0), (0, 0), (0, 1)] [[], [(2, none)], [(18, some 1)], [(17, some 0), (19, some 2)], [], [(2, none)], [(22, some 5)], [(21, some 4), (23, some 6)], [(20, some 3), (24, some 7)], [], [(7, some 9), (25, some 8)]] 11 1 110 (by kernel_rfl) rfl rfl rfl (by kernel_rfl) (by kernel_rfl) (by decide) (by kernel_rfl) ?_ ?_ ?_ ?_ ?_
    · exact fun ph w1 w2 h hb => h.trans (hb.mono h.size)
    · exact (Below.refl _ _)
    · show ∀ i, i < 11 → _
      iterate 11 (refine fls ?_ ?_)
      · exact fl0
      · intro hne lo hi ph hran hp1 hp2 a w1 hJ hsz hs      -- 0: slot 17
        obtain ⟨rfl, rfl⟩ : 0 = lo ∧ 0 = hi := Prod.mk.inj (Option.some.inj hran)
        obtain rfl : ph = 0 := by omega
        exact op_run rfl rfl (v := .slice (some ⟨w1.heap.size, 0, none⟩) 0 0) (w' := w1.alloc (.cells #[] 5)) (by simp [execOp, Act.eval, go_sem]) ⟨w1.heap.size, rfl, (own_empty (W0 := w1) (w := w1) (Below.refl _ _)).back (show Below wo.heap.size wo w1 from hJ)⟩ ((Below.refl _ _).alloc (Nat.le_refl _) _)
      · intro hne lo hi ph hran hp1 hp2 a w1 hJ hsz hs      -- 1: slot 18
        obtain ⟨rfl, rfl⟩ : 0 = lo ∧ 0 = hi := Prod.mk.inj (Option.some.inj hran)
        obtain rfl : ph = 0 := by omega
        obtain ⟨h0, _⟩ := hs
        have h0 : a.tmps.getD 2 undef = .pointer (some ⟨X, 0, none⟩) := h0
        refine op_run rfl rfl (v := .pointer (some ⟨X, 0, none⟩)) (w' := w1) ?_ rfl (Below.refl _ _)
        simp [execOp, Act.eval, h0, go_sem]
      · intro hne lo hi ph hran hp1 hp2 a w1 hJ hsz hs      -- 2: slot 19
        obtain ⟨rfl, rfl⟩ : 0 = lo ∧ 0 = hi := Prod.mk.inj (Option.some.inj hran)
        obtain rfl : ph = 0 := by omega
        obtain ⟨h0, _⟩ := hs
        have h0 : a.tmps.getD 18 undef = .pointer (some ⟨X, 0, none⟩) := h0
        obtain ⟨x0, x1⟩ := (HX2.out.later (show Below wo.heap.size wo w1 from hJ)).c2
        refine op_run rfl rfl (v := .slice a1 nd c1) (w' := w1) ?_ rfl (Below.refl _ _)
        simp [execOp, Act.eval, h0, x0, go_sem]
      · intro hne lo hi ph hran hp1 hp2 a w1 hJ hsz hs      -- 3: slot 20
        obtain ⟨rfl, rfl⟩ : 0 = lo ∧ 0 = hi := Prod.mk.inj (Option.some.inj hran)
        obtain rfl : ph = 0 := by omega
        obtain ⟨h0, h1, _⟩ := hs
        have m0 : (ebV wo).p w1 (a.tmps.getD 17 undef) := h0
        have h1 : a.tmps.getD 19 undef = .slice a1 nd c1 := h1
        obtain ⟨g, e17, o17⟩ := m0
        rw [e17] at o17
        exact op_freshB rfl rfl (.tmp 17) (.tmp 19) rfl e17 o17 a1 c1 nd s.data (HRD.out.later (show Below wo.heap.size wo w1 from hJ)) HND.out h1 HN1.out (fun v' w' hv => hv)
      · intro hne lo hi ph hran hp1 hp2 a w1 hJ hsz hs      -- 4: slot 21
        obtain ⟨rfl, rfl⟩ : 0 = lo ∧ 0 = hi := Prod.mk.inj (Option.some.inj hran)
        obtain rfl : ph = 0 := by omega
        exact op_run rfl rfl (v := .slice (some ⟨w1.heap.size, 0, none⟩) 0 0) (w' := w1.alloc (.cells #[] 48)) (by simp [execOp, Act.eval, go_sem]) ⟨w1.heap.size, rfl, GOwn.empty (show Below wo.heap.size wo w1 from hJ) rfl⟩ ((Below.refl _ _).alloc (Nat.le_refl _) _)
      · intro hne lo hi ph hran hp1 hp2 a w1 hJ hsz hs      -- 5: slot 22
        obtain ⟨rfl, rfl⟩ : 0 = lo ∧ 0 = hi := Prod.mk.inj (Option.some.inj hran)
        obtain rfl : ph = 0 := by omega
        obtain ⟨h0, _⟩ := hs
        have h0 : a.tmps.getD 2 undef = .pointer (some ⟨X, 0, none⟩) := h0
        refine op_run rfl rfl (v := .pointer (some ⟨X, 1, none⟩)) (w' := w1) ?_ rfl (Below.refl _ _)
        simp [execOp, Act.eval, h0, go_sem]
      · intro hne lo hi ph hran hp1 hp2 a w1 hJ hsz hs      -- 6: slot 23
        obtain ⟨rfl, rfl⟩ : 0 = lo ∧ 0 = hi := Prod.mk.inj (Option.some.inj hran)
        obtain rfl : ph = 0 := by omega
        obtain ⟨h0, _⟩ := hs
        have h0 : a.tmps.getD 22 undef = .pointer (some ⟨X, 1, none⟩) := h0
        obtain ⟨x0, x1⟩ := (HX2.out.later (show Below wo.heap.size wo w1 from hJ)).c2
        refine op_run rfl rfl (v := .slice a2 ns c2) (w' := w1) ?_ rfl (Below.refl _ _)
        simp [execOp, Act.eval, h0, x1, go_sem]
      · intro hne lo hi ph hran hp1 hp2 a w1 hJ hsz hs      -- 7: slot 24
        obtain ⟨rfl, rfl⟩ : 0 = lo ∧ 0 = hi := Prod.mk.inj (Option.some.inj hran)
        obtain rfl : ph = 0 := by omega
        obtain ⟨h0, h1, _⟩ := hs
        have m0 : (eoV wo).p w1 (a.tmps.getD 21 undef) := h0
        have h1 : a.tmps.getD 23 undef = .slice a2 ns c2 := h1
        obtain ⟨g, e21, o21⟩ := m0
        rw [e21] at o21
        exact op_freshO rfl rfl (.tmp 21) (.tmp 23) rfl e21 o21 a2 c2 ns s.snaps (HRO.out.later od_rel (show Below wo.heap.size wo w1 from hJ)) h1 HN2.out (fun v' w' hv => hv)
      · intro hne lo hi ph hran hp1 hp2 a w1 hJ hsz hs      -- 8: slot 25
        obtain ⟨rfl, rfl⟩ : 0 = lo ∧ 0 = hi := Prod.mk.inj (Option.some.inj hran)
        obtain rfl : ph = 0 := by omega
        obtain ⟨h0, h1, _⟩ := hs
        have m0 : (obV wo s.data).p w1 (a.tmps.getD 20 undef) := h0
        have m1 : (ooV JO wo s.snaps).p w1 (a.tmps.getD 24 undef) := h1
        have md : Own wo w1 (a.tmps.getD 20 undef) s.data := m0
        have mv : OO JO wo w1 (a.tmps.getD 24 undef) s.snaps := m1
        obtain ⟨d1, hd1⟩ : ∃ z, a.tmps.getD 20 undef = z := ⟨_, rfl⟩
        obtain ⟨v1, hv1⟩ : ∃ z, a.tmps.getD 24 undef = z := ⟨_, rfl⟩
        rw [hd1] at md
        rw [hv1] at mv
        have gd1 : a.tmps[20]?.getD undef = d1 := (Array.getD_eq_getD_getElem? ..).symm.trans hd1
        have gv1 : a.tmps[24]?.getD undef = v1 := (Array.getD_eq_getD_getElem? ..).symm.trans hv1
        refine op_run rfl rfl (v := .agg #[d1, v1]) (w' := w1) ?_ ⟨d1, v1, rfl, md, mv⟩ (Below.refl _ _)
        obtain ⟨ad, cd, rfl, _⟩ := md.row
        obtain ⟨av, cv, rfl⟩ := mv.val odT_ok rfl
        simp [execOp, Act.eval, hd1, hv1, gd1, gv1, go_sem]
      · intro hne lo hi ph hran hp1 hp2 a w1 hJ hsz hs      -- 9: slot 7
        obtain ⟨rfl, rfl⟩ : 0 = lo ∧ 0 = hi := Prod.mk.inj (Option.some.inj hran)
        obtain rfl : ph = 0 := by omega
        refine op_run rfl rfl (v := .pointer (some ⟨w1.heap.size, 0, none⟩)) (w' := w1.alloc (.cells zeroSt 28)) ?_ ⟨w1.heap.size, rfl, RecAt.new w1 _ _, (show Below wo.heap.size wo w1 from hJ).size⟩ ((Below.refl _ _).alloc (Nat.le_refl _) _)
        simp [execOp, Act.eval, go_sem, ub0, zeroSt]
      · intro hne lo hi ph hran hp1 hp2 a w1 hJ hsz hs      -- 10: slot None
        exact absurd (by decide) hne
    · show ∀ ph, ph < 1 → _
      iterate 1 (refine fls ?_ ?_)
      · exact fl0
      · intro i hi a w1 hJ hsz hs      -- heavy 0: op 10 slot None
        obtain rfl : 10 = i := Option.some.inj hi
        obtain ⟨h0, h1, _⟩ := hs
        have m0 : (zsV wo).p w1 (a.tmps.getD 7 undef) := h0
        have m1 : (agV JO wo s).p w1 (a.tmps.getD 25 undef) := h1
        obtain ⟨PX, hvx, hX, hXs⟩ := (show ∃ g, a.tmps.getD 7 undef = .pointer (some ⟨g, 0, none⟩) ∧ RecAt w1 g zeroSt 28 ∧ wo.heap.size ≤ g from m0)
        obtain ⟨d1, v1, e25, md, mv⟩ := m1
        have hone : (#[d1, v1] : Array Value).all (·.oneCell') = true := by
          obtain ⟨ad, cd, rfl, _⟩ := md.row
          obtain ⟨av, cv, rfl⟩ := mv.val odT_ok rfl
          simp [Value.oneCell']
        refine hv_recW rfl rfl (x := PX) (p := .tmp 7) (v := .tmp 25) (cs := zeroSt) (vs := #[d1, v1]) rfl hvx e25 hX rfl (by kernel_rfl) hone (fun w' => trivial) ?_
        intro w' r1 r2 r3 r4
        have hb : Below wo.heap.size wo w' := (show Below wo.heap.size wo w1 from hJ).grown r4 (show Below wo.heap.size wo w1 from hJ).size (fun q e => by cases e; exact hXs)
        have o1 : Own wo w' d1 s.data := md.keptG r4 (.inr (md.neT hX (by decide))) (fun k e => by cases e; exact hXs)
        have o2 : OO JO wo w' v1 s.snaps := mv.keptG od_rel r4 hXs hX (by decide) (fun b hb => by have := (HJO.out b hb).1; have := HWO.out; omega)
        exact ⟨hb, CalmW.all ⟨.inr fun _ _ _ => trivial, .inr fun _ _ h => h, .inr fun _ _ h => h, .inr fun _ _ _ => trivial, .inr fun _ _ _ => trivial, .inr fun _ _ h => h, .inr fun _ _ h => h, .inr fun _ _ _ => trivial, .inr fun _ _ _ => trivial, .inr fun v hh _ => ⟨PX, d1, v1, (hh _ _ rfl rfl).trans hvx, r1, hXs, o1, o2⟩, .inl rfl, trivial⟩⟩
    intro f w1 hJ hv
    have e7 : (rsV JO wo s).p w1 (f 7) := hv 9 _ 7 rfl rfl
    have hbo : Below wo.heap.size wo w1 := hJ
    clear hv
    try simp only [Exit.then]
    simp only [putAll, List.foldl_cons, List.foldl_nil, Option.getD_some, Act.put, List.setIfInBounds_toArray, List.set_cons_succ, List.set_cons_zero]
    obtain ⟨PX, d1, v1, e7, r7, hXs, o1, o2⟩ := e7
    rw [e7]
    clear hJ e7
    -- END A4
    -- one's own blocks, and those of old
    obtain ⟨JN, hJN⟩ : ∃ JN : Nat → Prop, (fun b => JO b ∨ wo.heap.size ≤ b) = JN := ⟨_, rfl⟩
    have HJN1 : Hid (∀ b, JN b → b ≠ X + 2 ∧ J b) := Lib.hid (by
      subst hJN
      rintro b (hb | hb)
      · obtain ⟨h1, h2⟩ := HJO.out b hb
        exact ⟨by omega, h2⟩
      · refine ⟨by have := HWO.out; omega, HJ.out b (by have := HB2.out.size; omega)⟩)
    have HJN2 : Hid (NewJ JN wo) := Lib.hid (by subst hJN; exact fun b hb => .inr hb)
    have HJN3 : Hid (∀ b, JO b → JN b) := Lib.hid (by subst hJN; exact fun b hb => .inl hb)
    have HBO := Lib.hid hbo
    have HR7 := Lib.hid r7
    have HO1 := Lib.hid o1
    have HO2 := Lib.hid o2
    have HX4W := Lib.hid (HX4.out.later hbo)
    have HX3W := Lib.hid (HX3.out.later hbo)
    clear hJN hbo r7 o1 o2
    have hkind := right_kind (check_right (s := s) (e := ev) (by rw [HCKE.out]; exact hc0'))
    have hevk : ev.kind = k := by rw [← HEVE.out]
    rw [hevk] at hkind
    obtain ⟨y0, y1, y2, y3, y4⟩ := HX3W.out.c5
    obtain rfl : k = 6 := HKK.out hc0'
    have hrt := check_right (s := s) (e := ev) (by rw [HCKE.out]; exact hc0')
    have hen : ev.name = T.data.toList := by rw [← HEVE.out]
    obtain ⟨K, oK, hp1, hp2, hp3, -⟩ := name_some (s := s) hrt (.inl hevk) (by rw [HCKE.out]; exact hc0')
    have hKn : K < ns := by have := (List.getElem?_eq_some_iff.1 hp3).1; have := HNS.out; omega
    have HDN : Hid (doneM s ev = ⟨s.data, s.snaps.take K ++ s.snaps.drop (K + 1)⟩) := Lib.hid (by unfold doneM; rw [if_neg (by omega), if_neg (by omega), if_neg (by omega), if_neg (by omega), if_pos (by omega), hp1, Option.getD_some, List.eraseIdx_eq_take_drop_succ])
    have HK := Lib.hid hKn
    rw [hen] at hp2
    have HFD := Lib.hid (rfind14_any (.slice a1 nd c1) a2 ns c2 s.snaps T JO w1 rfl (HRO.out.later od_rel HBO.out) hT)
    rw [hp2] at HFD
    obtain ⟨av, cv, hav⟩ := HO2.out.val odT_ok HNS.out
    subst hav
    have HJM1 : Hid (∀ b, JO b → b ≠ PX) := Lib.hid (by
      intro b hb
      obtain ⟨h1, h2⟩ := HJO.out b hb
      have := HWO.out; omega)
    obtain ⟨hq1, hq2, hq3, hq4⟩ := HRO.out.cap
    unfold maxLen at hq3
    have HS1 : Hid (∀ W, (Instr.slice 26 (.slice a2 ns c2) none (some (.int .i64 (K : Nat))) none).run Try.prog W = .ok (.slice a2 K c2) W) := Lib.hid fun W => run_slG odT_ok rfl hq4 hq2 (by omega)
    have HS2 : Hid (∀ W, (Instr.slice 26 (.slice a2 ns c2) (some (.int .i64 ((K : Nat) + 1))) none none).run Try.prog W = .ok (.slice (cutA 2 a2 (K + 1) c2) (ns - (K + 1)) (c2 - (K + 1))) W) := Lib.hid fun W => by
      have := run_slG_end (W := W) (a := a2) odT_ok rfl hq2 (lo := K + 1) (by omega)
      simpa only [Int.natCast_add, Int.natCast_one, Int.cast_ofNat_Int] using this
    have HW1 : Hid (IntKind.i64.wrap ((K : Int) + 1) = (K : Int) + 1) := Lib.hid (IntWalk.i64_in _ (by omega))
    clear hevk hkind hrt hen hp1 hp2 hp3 hKn hq1 hq2 hq3 hq4
    obtain ⟨z0, z1⟩ := HR7.out.c2
    obtain ⟨x0, x1⟩ := (HX2.out.later HBO.out).c2
    go_wp2_with fail
    refine HFD.out.mono ?_
    rintro e w5 ⟨rfl, b5⟩
    replace HO1 := Lib.hid (HO1.out.later b5)
    replace HO2 := Lib.hid (HO2.out.later od_rel b5)
    replace HR7 := Lib.hid (HR7.out.later b5)
    replace HX4W := Lib.hid (HX4W.out.later b5)
    replace HBO := Lib.hid (HBO.out.trans (b5.mono HBO.out.size))
    clear y0 y1 y2 y3 y4 z0 z1 x0 x1 b5 HFD
    go_upto_region 20 with fail
    -- REG A20
    refine wp_region_ptab (L := fun ph => match ph with | 0 => [eoV wo, cV (.pointer (some ⟨X, 1, none⟩)), cV (.slice a2 ns c2), cV (.int .i64 (K : Nat)), cV (.slice a2 K c2), ooV JO wo (s.snaps.take K), cV (.pointer (some ⟨X, 1, none⟩)), cV (.slice a2 ns c2), cV (.int .i64 (K : Nat)), cV (.int .i64 ((K : Nat) + 1)), cV (.slice (cutA 2 a2 (K + 1) c2) (ns - (K + 1)) (c2 - (K + 1))), nV, cV (.pointer (some ⟨PX, 1, none⟩)), tV] | 1 => [tV, cV (.pointer (some ⟨X, 1, none⟩)), cV (.slice a2 ns c2), cV (.int .i64 (K : Nat)), cV (.slice a2 K c2), tV, cV (.pointer (some ⟨X, 1, none⟩)), cV (.slice a2 ns c2), cV (.int .i64 (K : Nat)), cV (.int .i64 ((K : Nat) + 1)), cV (.slice (cutA 2 a2 (K + 1) c2) (ns - (K + 1)) (c2 - (K + 1))), ooV JO wo (s.snaps.take K ++ s.snaps.drop (K + 1)), cV (.pointer (some ⟨PX, 1, none⟩)), tV] | _ => [tV, cV (.pointer (some ⟨X, 1, none⟩)), cV (.slice a2 ns c2), cV (.int .i64 (K : Nat)), cV (.slice a2 K c2), tV, cV (.pointer (some ⟨X, 1, none⟩)), cV (.slice a2 ns c2), cV (.int .i64 (K : Nat)), cV (.int .i64 ((K : Nat) + 1)), cV (.slice (cutA 2 a2 (K + 1) c2) (ns - (K + 1)) (c2 - (K + 1))), tV, cV (.pointer (some ⟨PX, 1, none⟩)), tV]) (jSn JO wo X PX d1 (.slice av ns cv) s.data s.snaps (s.snaps.take K ++ s.snaps.drop (K + 1))) [11, 13] [(0, 0), (0, 0), (0, 0), (0, 0), (0, 0), (0, 0), (0, 0), (0, 0), (0, 0), (0, 0), (0, 0), (0, 1), (0, 1), (1, 2)] [[], [(2, none)], [(83, some 1)], [(9, none)], [(84, some 2), (85, some 3)], [(82, some 0), (86, some 4)], [(2, none)], [(88, some 6)], [(9, none)], [(90, some 8)], [(89, some 7), (91, some 9)], [(87, some 5), (92, some 10)], [(7, none)], [(94, some 12), (93, some 11)]] 14 2 110 (by kernel_rfl) rfl rfl rfl (by kernel_rfl) (by kernel_rfl) (by decide) (by kernel_rfl) ?_ ?_ ?_ ?_ ?_
    · exact jSn_st JO wo X PX d1 (.slice av ns cv) s.data s.snaps _
    · exact ⟨HBO.out, HR7.out, HX4W.out, HO1.out, HO2.out⟩
    · show ∀ i, i < 14 → _
      iterate 14 (refine fls ?_ ?_)
      · exact fl0
      · intro hne lo hi ph hran hp1 hp2 a w1 hJ hsz hs      -- 0: slot 82
        obtain ⟨rfl, rfl⟩ : 0 = lo ∧ 0 = hi := Prod.mk.inj (Option.some.inj hran)
        obtain rfl : ph = 0 := by omega
        exact op_run rfl rfl (v := .slice (some ⟨w1.heap.size, 0, none⟩) 0 0) (w' := w1.alloc (.cells #[] 48)) (by simp [execOp, Act.eval, go_sem]) ⟨w1.heap.size, rfl, GOwn.empty (show Below wo.heap.size wo w1 from hJ.1) rfl⟩ ((Below.refl _ _).alloc (Nat.le_refl _) _)
      · intro hne lo hi ph hran hp1 hp2 a w1 hJ hsz hs      -- 1: slot 83
        obtain ⟨rfl, rfl⟩ : 0 = lo ∧ 0 = hi := Prod.mk.inj (Option.some.inj hran)
        obtain rfl : ph = 0 := by omega
        obtain ⟨h0, _⟩ := hs
        have h0 : a.tmps.getD 2 undef = .pointer (some ⟨X, 0, none⟩) := h0
        refine op_run rfl rfl (v := .pointer (some ⟨X, 1, none⟩)) (w' := w1) ?_ rfl (Below.refl _ _)
        simp [execOp, Act.eval, h0, go_sem]
      · intro hne lo hi ph hran hp1 hp2 a w1 hJ hsz hs      -- 2: slot 84
        obtain ⟨rfl, rfl⟩ : 0 = lo ∧ 0 = hi := Prod.mk.inj (Option.some.inj hran)
        obtain rfl : ph = 0 := by omega
        obtain ⟨h0, _⟩ := hs
        have h0 : a.tmps.getD 83 undef = .pointer (some ⟨X, 1, none⟩) := h0
        have k0 : w1.cell? ⟨X, 1, none⟩ = some (.slice a2 ns c2) := (HX2.out.later (show Below wo.heap.size wo w1 from hJ.1)).c2.2
        refine op_run rfl rfl (v := .slice a2 ns c2) (w' := w1) ?_ rfl (Below.refl _ _)
        simp [execOp, Act.eval, h0, k0, go_sem]
      · intro hne lo hi ph hran hp1 hp2 a w1 hJ hsz hs      -- 3: slot 85
        obtain ⟨rfl, rfl⟩ : 0 = lo ∧ 0 = hi := Prod.mk.inj (Option.some.inj hran)
        obtain rfl : ph = 0 := by omega
        obtain ⟨h0, _⟩ := hs
        have h0 : a.tmps.getD 9 undef = .int .i64 (K : Nat) := h0
        refine op_run rfl rfl (v := .int .i64 (K : Nat)) (w' := w1) ?_ rfl (Below.refl _ _)
        simp [execOp, Act.eval, h0, go_sem]
      · intro hne lo hi ph hran hp1 hp2 a w1 hJ hsz hs      -- 4: slot 86
        obtain ⟨rfl, rfl⟩ : 0 = lo ∧ 0 = hi := Prod.mk.inj (Option.some.inj hran)
        obtain rfl : ph = 0 := by omega
        obtain ⟨h0, h1, _⟩ := hs
        have h0 : a.tmps.getD 84 undef = .slice a2 ns c2 := h0
        have h1 : a.tmps.getD 85 undef = .int .i64 (K : Nat) := h1
        have k0 := HS1.out w1
        refine op_run rfl rfl (v := .slice a2 K c2) (w' := w1) ?_ rfl (Below.refl _ _)
        simp [execOp, Act.eval, h0, h1, k0, go_sem]
      · intro hne lo hi ph hran hp1 hp2 a w1 hJ hsz hs      -- 5: slot 87
        obtain ⟨rfl, rfl⟩ : 0 = lo ∧ 0 = hi := Prod.mk.inj (Option.some.inj hran)
        obtain rfl : ph = 0 := by omega
        obtain ⟨h0, h1, _⟩ := hs
        have m0 : (eoV wo).p w1 (a.tmps.getD 82 undef) := h0
        have h1 : a.tmps.getD 86 undef = .slice a2 K c2 := h1
        obtain ⟨g, e82, o82⟩ := m0
        rw [e82] at o82
        exact op_freshO rfl rfl (.tmp 82) (.tmp 86) rfl e82 o82 a2 c2 K (s.snaps.take K) ((HRO.out.later od_rel (show Below wo.heap.size wo w1 from hJ.1)).take (Nat.le_of_lt HK.out)) h1 (by have := HN2.out; have := HK.out; omega) (fun v' w' hv => hv)
      · intro hne lo hi ph hran hp1 hp2 a w1 hJ hsz hs      -- 6: slot 88
        obtain ⟨rfl, rfl⟩ : 0 = lo ∧ 0 = hi := Prod.mk.inj (Option.some.inj hran)
        obtain rfl : ph = 0 := by omega
        obtain ⟨h0, _⟩ := hs
        have h0 : a.tmps.getD 2 undef = .pointer (some ⟨X, 0, none⟩) := h0
        refine op_run rfl rfl (v := .pointer (some ⟨X, 1, none⟩)) (w' := w1) ?_ rfl (Below.refl _ _)
        simp [execOp, Act.eval, h0, go_sem]
      · intro hne lo hi ph hran hp1 hp2 a w1 hJ hsz hs      -- 7: slot 89
        obtain ⟨rfl, rfl⟩ : 0 = lo ∧ 0 = hi := Prod.mk.inj (Option.some.inj hran)
        obtain rfl : ph = 0 := by omega
        obtain ⟨h0, _⟩ := hs
        have h0 : a.tmps.getD 88 undef = .pointer (some ⟨X, 1, none⟩) := h0
        have k0 : w1.cell? ⟨X, 1, none⟩ = some (.slice a2 ns c2) := (HX2.out.later (show Below wo.heap.size wo w1 from hJ.1)).c2.2
        refine op_run rfl rfl (v := .slice a2 ns c2) (w' := w1) ?_ rfl (Below.refl _ _)
        simp [execOp, Act.eval, h0, k0, go_sem]
      · intro hne lo hi ph hran hp1 hp2 a w1 hJ hsz hs      -- 8: slot 90
        obtain ⟨rfl, rfl⟩ : 0 = lo ∧ 0 = hi := Prod.mk.inj (Option.some.inj hran)
        obtain rfl : ph = 0 := by omega
        obtain ⟨h0, _⟩ := hs
        have h0 : a.tmps.getD 9 undef = .int .i64 (K : Nat) := h0
        refine op_run rfl rfl (v := .int .i64 (K : Nat)) (w' := w1) ?_ rfl (Below.refl _ _)
        simp [execOp, Act.eval, h0, go_sem]
      · intro hne lo hi ph hran hp1 hp2 a w1 hJ hsz hs      -- 9: slot 91
        obtain ⟨rfl, rfl⟩ : 0 = lo ∧ 0 = hi := Prod.mk.inj (Option.some.inj hran)
        obtain rfl : ph = 0 := by omega
        obtain ⟨h0, _⟩ := hs
        have h0 : a.tmps.getD 90 undef = .int .i64 (K : Nat) := h0
        refine op_run rfl rfl (v := .int .i64 ((K : Nat) + 1)) (w' := w1) ?_ rfl (Below.refl _ _)
        simp [execOp, Act.eval, h0, HW1.out, go_sem]
      · intro hne lo hi ph hran hp1 hp2 a w1 hJ hsz hs      -- 10: slot 92
        obtain ⟨rfl, rfl⟩ : 0 = lo ∧ 0 = hi := Prod.mk.inj (Option.some.inj hran)
        obtain rfl : ph = 0 := by omega
        obtain ⟨h0, h1, _⟩ := hs
        have h0 : a.tmps.getD 89 undef = .slice a2 ns c2 := h0
        have h1 : a.tmps.getD 91 undef = .int .i64 ((K : Nat) + 1) := h1
        have k0 := HS2.out w1
        refine op_run rfl rfl (v := .slice (cutA 2 a2 (K + 1) c2) (ns - (K + 1)) (c2 - (K + 1))) (w' := w1) ?_ rfl (Below.refl _ _)
        simp [execOp, Act.eval, h0, h1, k0, go_sem]
      · intro hne lo hi ph hran hp1 hp2 a w1 hJ hsz hs      -- 11: slot 93
        exact absurd (by decide) hne
      · intro hne lo hi ph hran hp1 hp2 a w1 hJ hsz hs      -- 12: slot 94
        obtain ⟨rfl, rfl⟩ : 0 = lo ∧ 1 = hi := Prod.mk.inj (Option.some.inj hran)
        rcases (by omega : ph = 0 ∨ ph = 1) with rfl | rfl
        · obtain ⟨h0, _⟩ := hs
          have h0 : a.tmps.getD 7 undef = .pointer (some ⟨PX, 0, none⟩) := h0
          refine op_run rfl rfl (v := .pointer (some ⟨PX, 1, none⟩)) (w' := w1) ?_ rfl (Below.refl _ _)
          simp [execOp, Act.eval, h0, go_sem]
        · obtain ⟨h0, _⟩ := hs
          have h0 : a.tmps.getD 7 undef = .pointer (some ⟨PX, 0, none⟩) := h0
          refine op_run rfl rfl (v := .pointer (some ⟨PX, 1, none⟩)) (w' := w1) ?_ rfl (Below.refl _ _)
          simp [execOp, Act.eval, h0, go_sem]
      · intro hne lo hi ph hran hp1 hp2 a w1 hJ hsz hs      -- 13: slot None
        exact absurd (by decide) hne
    · show ∀ ph, ph < 2 → _
      iterate 2 (refine fls ?_ ?_)
      · exact fl0
      · intro i hi a w1 hJ hsz hs      -- heavy 0: op 11 slot 93
        obtain rfl : 11 = i := Option.some.inj hi
        obtain ⟨h0, h1, _⟩ := hs
        have m0 : (ooV JO wo (s.snaps.take K)).p w1 (a.tmps.getD 87 undef) := h0
        have h1 : a.tmps.getD 92 undef = .slice (cutA 2 a2 (K + 1) c2) (ns - (K + 1)) (c2 - (K + 1)) := h1
        have hJ0 : jSn JO wo X PX d1 (.slice av ns cv) s.data s.snaps (s.snaps.take K ++ s.snaps.drop (K + 1)) 0 w1 := hJ
        obtain ⟨q1, q2, q3, q4, q5⟩ := hJ0
        obtain ⟨u, hu⟩ : ∃ z, a.tmps.getD 87 undef = z := ⟨_, rfl⟩
        have m0' : OO JO wo w1 u (s.snaps.take K) := by rw [← hu]; exact m0
        have hq : QRow (lessJ JO u) 2 48 26 OdR w1 (.slice (cutA 2 a2 (K + 1) c2) (ns - (K + 1)) (c2 - (K + 1))) (s.snaps.drop (K + 1)) := ((HRO.out.later od_rel q1).drop HK.out).weak od_rel fun b _ hb => ⟨hb, fun e => by have := (m0'.ltB e.symm).1; have := (HJO.out b hb).1; have := HWO.out; omega⟩
        refine hv_nons odT_ok od_rel rfl rfl (.tmp 87) (.tmp 92) rfl u (s.snaps.take K) hu wo m0' (s.snaps.drop (K + 1)) _ _ _ h1 hq (by rw [List.length_take, List.length_drop]; have := HNS.out; have := HN2.out; have := HK.out; omega) ?_
        intro v' w' o1 g1
        exact ⟨o1, jSn.grown ⟨q1, q2, q3, q4⟩ m0' HWO.out g1, (Calm5.all (n := 0) ⟨.inr fun _ _ => trivial, .inr fun _ h => h, .inr fun _ h => h, .inr fun _ h => h, .inr fun _ h => h, .inr fun _ _ => trivial, .inr fun _ h => h, .inr fun _ h => h, .inr fun _ h => h, .inr fun _ h => h, .inr fun _ h => h, .inl rfl, .inr fun _ h => h, .inr fun _ _ => trivial, trivial⟩)⟩
      · intro i hi a w1 hJ hsz hs      -- heavy 1: op 13 slot None
        obtain rfl : 13 = i := Option.some.inj hi
        obtain ⟨h0, h1, _⟩ := hs
        have h0 : a.tmps.getD 94 undef = .pointer (some ⟨PX, 1, none⟩) := h0
        have g0 : a.tmps[94]?.getD undef = .pointer (some ⟨PX, 1, none⟩) := (Array.getD_eq_getD_getElem? ..).symm.trans h0
        have m1 : (ooV JO wo (s.snaps.take K ++ s.snaps.drop (K + 1))).p w1 (a.tmps.getD 93 undef) := h1
        have hJ1 : jSn JO wo X PX d1 (.slice av ns cv) s.data s.snaps (s.snaps.take K ++ s.snaps.drop (K + 1)) 1 w1 := hJ
        have m1' : OO JO wo w1 (a.tmps.getD 93 undef) (s.snaps.take K ++ s.snaps.drop (K + 1)) := m1
        obtain ⟨aE, cE, he⟩ := m1'.val odT_ok (rfl : (s.snaps.take K ++ s.snaps.drop (K + 1)).length = (s.snaps.take K ++ s.snaps.drop (K + 1)).length)
        have he2 : a.tmps[93]?.getD undef = .slice aE (s.snaps.take K ++ s.snaps.drop (K + 1)).length cE := by rw [← Array.getD_eq_getD_getElem?]; exact he
        rw [he] at m1'
        have cc : w1.cell? ⟨PX, 1, none⟩ = some (.slice av ns cv) := hJ1.2.1.cell rfl
        have cf := hJ1.2.1.frozen 1
        have hst := hJ1.stored m1' HWO.out hXs HJM1.out
        obtain ⟨LN, hLN⟩ : ∃ z, (s.snaps.take K ++ s.snaps.drop (K + 1)).length = z := ⟨_, rfl⟩
        rw [hLN] at he he2 hst
        refine hv_skip rfl rfl (w' := w1.setCell ⟨PX, 1, none⟩ (.slice aE LN cE)) ?_ trivial hst (Calm5.all (n := 0) ⟨.inr fun _ h => h, .inr fun _ h => h, .inr fun _ h => h, .inr fun _ h => h, .inr fun _ h => h, .inr fun _ _ => trivial, .inr fun _ h => h, .inr fun _ h => h, .inr fun _ h => h, .inr fun _ h => h, .inr fun _ h => h, .inr fun _ _ => trivial, .inr fun _ h => h, .inl rfl, trivial⟩)
        simp [execOp, Act.eval, h0, g0, he, he2, go_sem, cc, cf]
    intro f w1 hJ hv
    clear hv
    try simp only [Exit.then]
    simp only [putAll, List.foldl_cons, List.foldl_nil, Option.getD_some, Act.put, List.setIfInBounds_toArray, List.set_cons_succ, List.set_cons_zero]
    obtain ⟨a6, c6, hb6, r6, r62, o61, o62⟩ := (show jSn JO wo X PX d1 (.slice av ns cv) s.data s.snaps (s.snaps.take K ++ s.snaps.drop (K + 1)) 2 w1 from hJ)
    clear hJ
    -- END A20
    have HRP := Lib.hid r6
    have HXR := Lib.hid r62
    have HBR := Lib.hid hb6
    have HST := Lib.hid (fin_st o61 o62 HJN2.out HJN3.out)
    obtain ⟨ad, cd, hd1, -⟩ := o61.row
    subst hd1
    obtain ⟨LN, hLN⟩ : ∃ z, (s.snaps.take K ++ s.snaps.drop (K + 1)).length = z := ⟨_, rfl⟩
    rw [hLN] at HRP HST
    clear r6 r62 hb6 o61 o62 hLN
    obtain ⟨z0, z1⟩ := HRP.out.c2
    go_wp2_with (refine wpList_rec rfl rfl (X + 2) zeroSt #[.slice ad s.data.length cd, .slice a6 LN c6] rfl rfl HXR.out rfl (by kernel_rfl) (by simp [Value.oneCell']) ?_; intro w4 r1 r2 r3 r4)
    refine bodyPost_ret (results_ct rfl rfl r1 Try.underlying28 rfl (by kernel_rfl)) rfl ?_
    unfold ApplyIs
    rw [HAP.out, HDN.out]
    exact ⟨_, _, rfl, (HST.out.keep (fun b hb hj => r3 b (HJN1.out b hj).1) (Nat.le_of_eq r2.symm)).weak fun b _ hj => (HJN1.out b hj).2, (HB2.out.trans (HBR.out.mono HB2.out.size)).grown r4 (HB2.out.trans (HBR.out.mono HB2.out.size)).size (fun q e => by cases e; have := HXS.out; omega)⟩
  · have hcn : (CK != 0) = true := by simp [hc0]
    have HAP : Hid (applyM s ev = (noSx, CK)) := Lib.hid (by rw [applyM_no (by rw [HCKE.out]; exact hc0), HCKE.out])
    clear hc0
    go_wp2_with (refine wpList_rec rfl rfl (X + 2) zeroSt zeroSt rfl rfl HX4.out rfl (by kernel_rfl) (by kernel_rfl) ?_; intro w4 r1 r2 r3 r4)
    refine bodyPost_ret (results_ct rfl rfl r1 Try.underlying28 rfl (by kernel_rfl)) rfl ?_
    unfold ApplyIs
    rw [HAP.out]
    exact ⟨_, _, rfl, ⟨BQ.nil _ _, QRow.nil _ _⟩, HB2.out.grown r4 HB2.out.size (fun q e => by cases e; have := HXS.out; omega)⟩
-- TAIL
end Go.Proofs.Ytghglbaflmbeoaa
