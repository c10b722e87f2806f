/- The law 'StoreKeeps', walked. -/
import Derived.Test.YtlcenanahbaflaaStA
import Derived.Test.YtlcenanahbaflaaRd
namespace Go.Proofs.Ytlcenanahbaflaa
open Go.RowKit
set_option linter.unusedVariables false

/-- A slice of rows of bytes. -/
def PRow (w : World) (a : Option Addr) (cap : Nat) (ps : List (List UInt8)) : Prop :=
  ps.length ≤ cap ∧ cap ≤ maxLen ∧ (a = none → cap = 0) ∧ ∀ x, a = some x → ∀ (i : Nat) p, ps[i]? = some p → ∃ ai ci, w.cell? (x.add i) = some (.slice ai p.length ci) ∧ Row w ai ci p
theorem PRow.later {w w' : World} {a : Option Addr} {cap : Nat} {ps : List (List UInt8)} (h : PRow w a cap ps) (hb : Below w.heap.size w w') : PRow w' a cap ps := by
  refine ⟨h.1, h.2.1, h.2.2.1, fun x hx i p hp => ?_⟩
  obtain ⟨ai, ci, h1, h2⟩ := h.2.2.2 x hx i p hp
  exact ⟨ai, ci, by rw [hb.cell (World.block_lt_of_cell? w _ h1)]; exact h1, h2.later hb⟩
theorem PRow.at {w : World} {a : Option Addr} {cap : Nat} {ps : List (List UInt8)} (h : PRow w a cap ps) (hl : 0 < ps.length) :
    ∃ b off, a = some ⟨b, off, .none⟩ ∧ ∀ (i : Nat) p, ps[i]? = some p → ∃ ai ci, w.cell? ⟨b, off + i, .none⟩ = some (.slice ai p.length ci) ∧ Row w ai ci p := by
  cases a with
  | none => have := h.2.2.1 rfl; have := h.1; omega
  | some x =>
    obtain ⟨a0, c0, h0, _⟩ := h.2.2.2 x rfl 0 ps[0] (by simp [hl])
    obtain ⟨b, off, spot⟩ := x
    have hspot : spot = .none := by simpa [Addr.add] using World.cell?_spot h0
    subst hspot
    refine ⟨b, off, rfl, fun i p hp => ?_⟩
    obtain ⟨ai, ci, h1, h2⟩ := h.2.2.2 _ rfl i p hp
    refine ⟨ai, ci, ?_, h2⟩
    by_cases hi : i = 0
    · subst hi; simpa [Addr.add] using h1
    · simpa [Addr.add, hi] using h1

set_option maxRecDepth 20000 in
set_option maxHeartbeats 1000000 in
theorem keeps_walk (a0 : Option Addr) (m cap : Nat) (ps : List (List UInt8)) (keep t : Int) (w : World) (hr : PRow w a0 cap ps) (hm : ps.length = m) (hm2 : m ≤ 20) (hkp : -9223372036854775808 ≤ keep ∧ keep ≤ 9223372036854775807) (ht : -9223372036854775808 ≤ t ∧ t ≤ 9223372036854775807) :
    Calls Try.prog 3 #[.slice a0 m cap, .int .i64 keep, .int .i64 t] w fun e w' => e = .returned (.bool true) ∧ Below w.heap.size w w' := by
  obtain ⟨hk1, hk2⟩ := hkp
  obtain ⟨ht1, ht2⟩ := ht
  have HN := Lib.hid (new_any w 65536)
  have HR := Lib.hid hr
  have HM := Lib.hid hm
  have hmc : m ≤ cap := by have := hr.1; omega
  clear hr hm
  go_enter Try.func3, Try.ntmps3
  go_wp2_with fail
  refine HN.out.mono ?_
  rintro e w1 ⟨b, g1, rfl, s1, hb1, hlb1, hj1⟩
  clear HN
  have H1 : Hid (NSto w w1 b g1 (St.new 65536)) := Lib.hid ⟨s1, hb1, hj1⟩
  have hbk : Below w1.heap.size w1 (w1.alloc (.cells #[.int .i64 1, .int .i64 0, .int .i64 3, .int .i64 0] 27)) := (Below.refl _ _).alloc (Nat.le_refl _) _
  have HK1 : Hid (KeyAt (w1.alloc (.cells #[.int .i64 1, .int .i64 0, .int .i64 3, .int .i64 0] 27)) w1.heap.size kpK) := Lib.hid (KeyAt.new w1 kpK)
  have H2 := Lib.hid (H1.out.later hbk)
  have HO1 := Lib.hid (One.made 65536 kpK kp_ok rfl)
  have HM1 := Lib.hid (make_any _ b g1 _ (H2.out.sto) kpK kp_ok rfl rfl (by decide) (St.Good.new 65536).wf 0 ((St.Good.new 65536).sm (by omega)) (by omega))
  have HJ1 : Hid (g1.r w1.heap.size = .junk) := Lib.hid (s1.dom _ (Nat.le_refl _))
  unfold kv kpK at HM1
  clear s1 hb1 hj1 hbk hlb1
  go_wp2_with fail
  refine HM1.out.mono ?_
  rintro e w2 ⟨rfl, g2, s2, f2⟩
  have HK2 := Lib.hid (HK1.out.jk (Jk.of_fr f2 (by simp [ours])) HJ1.out)
  have HJ2 : Hid (g2.r w1.heap.size = .junk) := Lib.hid (by rw [f2.role _ HK1.out.lt]; exact HJ1.out)
  have H3 : Hid (NSto w w2 b g2 ((St.new 65536).did kpK ⟨0, 0, [], []⟩)) := Lib.hid (H2.out.fr s2 f2)
  clear HM1 H1 H2 HK1 HJ1 s2 f2
  obtain ⟨kb, hkb⟩ : ∃ kb, w1.heap.size = kb := ⟨_, rfl⟩
  rw [hkb] at HK2 HJ2 ⊢
  clear hkb
  have HB := Lib.hid (barrier_any w2 b g2 _ H3.out.sto HO1.out.off (by have := HO1.out.good.deeds; omega))
  go_wp2_with fail
  refine HB.out.mono ?_
  rintro e w3 ⟨rfl, g3, s3, f3⟩
  have HK3 := Lib.hid (HK2.out.jk (Jk.of_fr f3 (by simp [ours])) HJ2.out)
  have HJ3 : Hid (g3.r kb = .junk) := Lib.hid (by rw [f3.role _ HK2.out.lt]; exact HJ2.out)
  have H4 : Hid (NSto w w3 b g3 (kpS ps 0)) := Lib.hid (H3.out.fr s3 f3)
  clear HB H3 HK2 HJ2 s3 f3 HO1
  go_wp2_with fail
  go_loopw [9, 10, 11] (fun n v i wr => ∃ (j : Nat) (gj : Gh), n = .int .i64 j ∧ i = .int .i64 j ∧ j ≤ m ∧ Hid ((∀ i, i < j → (ps.getD i []).length ≤ 60) ∧ NSto w wr b gj (kpS ps j) ∧ KeyAt wr kb kpK ∧ gj.r kb = .junk ∧ WRow wr gj.r 5 1 v (wantW ps keep t j).length ((wantW ps keep t j).map B8))) (fun _ _ i _ => m - (intOf i).toNat)
  case atStart =>
    exact ⟨0, g3, rfl, rfl, by omega, Lib.hid ⟨fun i hi => by omega, H4.out, HK3.out, HJ3.out, by rw [wantW_zero]; exact WRow.nil _ _ _ _⟩⟩
  case round =>
    obtain ⟨j, gj, rfl, rfl, hj, HI⟩ := hrel
    by_cases hjm : j < m
    · obtain ⟨pb, po, rfl, hat⟩ := HR.out.at (by have := HM.out; omega)
      obtain ⟨p, hp⟩ : ∃ p, ps[j]? = some p := ⟨_, List.getElem?_eq_getElem (by have := HM.out; omega)⟩
      obtain ⟨ai, ci, hcell, hrow⟩ := hat j p hp
      have hgd : ps.getD j [] = p := by simp [List.getD_eq_getElem?_getD, hp]
      obtain ⟨np, hnp⟩ : ∃ np, p.length = np := ⟨_, rfl⟩
      rw [hnp] at hcell
      have HP := Lib.hid hgd
      have HNP := Lib.hid hnp
      have HCW := Lib.hid hcell
      have HRW := Lib.hid hrow
      have HRO := Lib.hid (hrow.later HI.out.2.1.below)
      have hcell : wr.cell? ⟨pb, po + j, .none⟩ = some (.slice ai np ci) := (Below.cell HI.out.2.1.below (World.block_lt_of_cell? w _ hcell)).trans hcell
      have hnc : np ≤ ci := by have := hrow.1; omega
      clear hat hp hrow hgd hnp
      by_cases h60 : np ≤ 60
      · go_upto_region 14 with fail
        have h60j : ∀ i, i < j + 1 → (ps.getD i []).length ≤ 60 := fun i hi => by
          by_cases e : i = j
          · subst e; rw [HP.out, HNP.out]; exact h60
          · exact HI.out.1 i (by omega)
        have HKB := Lib.hid HI.out.2.2.1
        have HJB := Lib.hid HI.out.2.2.2.1
        have HCE := Lib.hid hcell
        have H60 := Lib.hid h60j
        have hone := kp_one ps j (by omega) HI.out.1
        have HAP : Hid (∀ w1, Below wr.heap.size wr w1 → Calls Try.prog 12 #[.pointer (some ⟨b, 0, .none⟩), .agg #[.int .i64 1, .int .i64 0, .int .i64 3, .int .i64 0], .slice ai np ci] w1 fun e w' => e = .returned (.int .i64 0) ∧ ∃ g', Sto w' b g' (kpS ps (j + 1)) ∧ Fr w1 w' gj.r g'.r ours) := by
          refine Lib.hid fun w1 hb1 => ?_
          have := append_any w1 b gj _ (HI.out.2.1.sto.later hb1) kpK kp_ok _ hone.seen hone.why ai ci np p (HRO.out.later hb1) HNP.out (by omega) hone.good.wf (j + 2) (hone.good.sm (by omega)) (by omega) hone.good.used_bd.1
          have hw := kp_wr ps j (by omega) (fun i hi => h60j i (by omega))
          rw [HP.out] at hw
          have e : (obL (catL ps j)).bytes.length = (catL ps j).length := rfl
          rw [e, hw] at this
          exact this
        clear hone hcell h60j
-- REG K14
        refine wp_region_ptab (L := fun ph => match ph with | 0 => [cV (.pointer (some ⟨b, 0, .none⟩)), cV (.agg #[.int .i64 1, .int .i64 0, .int .i64 3, .int .i64 0]), cV (.slice (some ⟨pb, po, .none⟩) m cap), cV (.int .i64 j), cV (.pointer (some ⟨pb, po + j, .none⟩)), cV (.slice ai np ci), cV (.int .i64 0), cV (.bool false)] | _ => [cV (.pointer (some ⟨b, 0, .none⟩)), cV (.agg #[.int .i64 1, .int .i64 0, .int .i64 3, .int .i64 0]), cV (.slice (some ⟨pb, po, .none⟩) m cap), cV (.int .i64 j), cV (.pointer (some ⟨pb, po + j, .none⟩)), cV (.slice ai np ci), cV (.int .i64 0), cV (.bool false)]) (jE wr b gj (kpS ps (j + 1))) [6] [(0, 0), (0, 0), (0, 0), (0, 0), (0, 0), (0, 0), (0, 1), (1, 1)] [[(7, none)], [(8, none)], [(0, none)], [(11, none)], [(49, some 2), (50, some 3)], [(51, some 4)], [(47, some 0), (48, some 1), (52, some 5)], [(53, some 6)]] 8 1 132 (by kernel_rfl) rfl rfl rfl (by kernel_rfl) (by kernel_rfl) (by decide) (by kernel_rfl) ?_ ?_ ?_ ?_ ?_
        · exact fun ph w1 w2 h hb => jE_st ph h hb
        · exact Below.refl _ _
        · show ∀ i, i < 8 → _
          iterate 8 (refine fls ?_ ?_)
          · exact fl0
          · intro hne lo hi ph hran hp1 hp2 a w1 hJ hsz hs      -- 0: slot 47
            obtain ⟨rfl, rfl⟩ : 0 = lo ∧ 0 = hi := Prod.mk.inj (Option.some.inj hran)
            obtain rfl : ph = 0 := by omega
            obtain ⟨h0, _⟩ := hs
            have h0 : a.tmps.getD 7 undef = .pointer (some ⟨b, 0, .none⟩) := h0
            refine op_run rfl rfl (v := .pointer (some ⟨b, 0, .none⟩)) (w' := w1) ?_ rfl (Below.refl _ _)
            simp [execOp, Act.eval, h0, go_sem]
          · intro hne lo hi ph hran hp1 hp2 a w1 hJ hsz hs      -- 1: slot 48
            obtain ⟨rfl, rfl⟩ : 0 = lo ∧ 0 = hi := Prod.mk.inj (Option.some.inj hran)
            obtain rfl : ph = 0 := by omega
            obtain ⟨h0, _⟩ := hs
            have h0 : a.tmps.getD 8 undef = .pointer (some ⟨kb, 0, .none⟩) := h0
            obtain ⟨c, c', c'', c'''⟩ : w1.cell? ⟨kb, 0, .none⟩ = some (.int .i64 1) ∧ w1.cell? ⟨kb, 1, .none⟩ = some (.int .i64 0) ∧ w1.cell? ⟨kb, 2, .none⟩ = some (.int .i64 3) ∧ w1.cell? ⟨kb, 3, .none⟩ = some (.int .i64 0) := KeyAt.cells (HKB.out.later hJ)
            refine op_run rfl rfl (v := .agg #[.int .i64 1, .int .i64 0, .int .i64 3, .int .i64 0]) (w' := w1) ?_ rfl (Below.refl _ _)
            simp [execOp, Act.eval, h0, c, c', c'', c''', go_sem]
          · intro hne lo hi ph hran hp1 hp2 a w1 hJ hsz hs      -- 2: slot 49
            obtain ⟨rfl, rfl⟩ : 0 = lo ∧ 0 = hi := Prod.mk.inj (Option.some.inj hran)
            obtain rfl : ph = 0 := by omega
            obtain ⟨h0, _⟩ := hs
            have h0 : a.tmps.getD 0 undef = .slice (some ⟨pb, po, .none⟩) m cap := h0
            refine op_run rfl rfl (v := .slice (some ⟨pb, po, .none⟩) m cap) (w' := w1) ?_ rfl (Below.refl _ _)
            simp [execOp, Act.eval, h0, go_sem]
          · intro hne lo hi ph hran hp1 hp2 a w1 hJ hsz hs      -- 3: slot 50
            obtain ⟨rfl, rfl⟩ : 0 = lo ∧ 0 = hi := Prod.mk.inj (Option.some.inj hran)
            obtain rfl : ph = 0 := by omega
            obtain ⟨h0, _⟩ := hs
            have h0 : a.tmps.getD 11 undef = .int .i64 j := h0
            refine op_run rfl rfl (v := .int .i64 j) (w' := w1) ?_ rfl (Below.refl _ _)
            simp [execOp, Act.eval, h0, go_sem]
          · intro hne lo hi ph hran hp1 hp2 a w1 hJ hsz hs      -- 4: slot 51
            obtain ⟨rfl, rfl⟩ : 0 = lo ∧ 0 = hi := Prod.mk.inj (Option.some.inj hran)
            obtain rfl : ph = 0 := by omega
            obtain ⟨h0, h1, _⟩ := hs
            have h0 : a.tmps.getD 49 undef = .slice (some ⟨pb, po, .none⟩) m cap := h0
            have h1 : a.tmps.getD 50 undef = .int .i64 j := h1
            refine op_run rfl rfl (v := .pointer (some ⟨pb, po + j, .none⟩)) (w' := w1) ?_ rfl (Below.refl _ _)
            simp [execOp, Act.eval, h0, h1, hjm, go_sem]
          · intro hne lo hi ph hran hp1 hp2 a w1 hJ hsz hs      -- 5: slot 52
            obtain ⟨rfl, rfl⟩ : 0 = lo ∧ 0 = hi := Prod.mk.inj (Option.some.inj hran)
            obtain rfl : ph = 0 := by omega
            obtain ⟨h0, _⟩ := hs
            have h0 : a.tmps.getD 51 undef = .pointer (some ⟨pb, po + j, .none⟩) := h0
            have c : w1.cell? ⟨pb, po + j, .none⟩ = some (.slice ai np ci) := (Below.cell hJ (World.block_lt_of_cell? wr _ HCE.out)).trans HCE.out
            refine op_run rfl rfl (v := .slice ai np ci) (w' := w1) ?_ rfl (Below.refl _ _)
            simp [execOp, Act.eval, h0, c, go_sem]
          · intro hne lo hi ph hran hp1 hp2 a w1 hJ hsz hs      -- 6: slot 53
            exact absurd (by decide) hne
          · intro hne lo hi ph hran hp1 hp2 a w1 hJ hsz hs      -- 7: slot 54
            obtain ⟨rfl, rfl⟩ : 1 = lo ∧ 1 = hi := Prod.mk.inj (Option.some.inj hran)
            obtain rfl : ph = 1 := by omega
            obtain ⟨h0, _⟩ := hs
            have h0 : a.tmps.getD 53 undef = .int .i64 0 := h0
            refine op_run rfl rfl (v := .bool false) (w' := w1) ?_ rfl (Below.refl _ _)
            simp [execOp, Act.eval, h0, go_sem]
        · show ∀ ph, ph < 1 → _
          iterate 1 (refine fls ?_ ?_)
          · exact fl0
          · intro i hi a w1 hJ hsz hs      -- heavy 0: op 6 slot 53
            obtain rfl : 6 = i := Option.some.inj hi
            obtain ⟨h0, h1, h2, _⟩ := hs
            have h0 : a.tmps.getD 47 undef = .pointer (some ⟨b, 0, .none⟩) := h0
            have h1 : a.tmps.getD 48 undef = .agg #[.int .i64 1, .int .i64 0, .int .i64 3, .int .i64 0] := h1
            have h2 : a.tmps.getD 52 undef = .slice ai np ci := h2
            have hcalm : ∀ (wq1 wq2 : World) (kk : Nat) (v0 : Value), kk ≠ 6 → VL [cV (.pointer (some ⟨b, 0, .none⟩)), cV (.agg #[.int .i64 1, .int .i64 0, .int .i64 3, .int .i64 0]), cV (.slice (some ⟨pb, po, .none⟩) m cap), cV (.int .i64 j), cV (.pointer (some ⟨pb, po + j, .none⟩)), cV (.slice ai np ci), cV (.int .i64 0), cV (.bool false)] kk wq1 v0 → VL [cV (.pointer (some ⟨b, 0, .none⟩)), cV (.agg #[.int .i64 1, .int .i64 0, .int .i64 3, .int .i64 0]), cV (.slice (some ⟨pb, po, .none⟩) m cap), cV (.int .i64 j), cV (.pointer (some ⟨pb, po + j, .none⟩)), cV (.slice ai np ci), cV (.int .i64 0), cV (.bool false)] kk wq2 v0 := Calm.all (n := 0) ⟨.inl ⟨_, rfl, rfl⟩, .inl ⟨_, rfl, rfl⟩, .inl ⟨_, rfl, rfl⟩, .inl ⟨_, rfl, rfl⟩, .inl ⟨_, rfl, rfl⟩, .inl ⟨_, rfl, rfl⟩, .inr (.inr rfl), .inl ⟨_, rfl, rfl⟩, trivial⟩
            refine hv_call rfl rfl (f := 12) (args := #[.pointer (some ⟨b, 0, .none⟩), .agg #[.int .i64 1, .int .i64 0, .int .i64 3, .int .i64 0], .slice ai np ci]) (by simp [execOp, Act.eval, resolve, h0, h1, h2, go_sem]) ?_
            refine (HAP.out w1 hJ).mono ?_
            rintro e w' ⟨rfl, g', a1, a2⟩
            exact ⟨_, rfl, rfl, ⟨g', a1, (Fr.of_below hJ gj.r _).trans a2⟩, hcalm _ _⟩
        · intro f w1 hJ hv
          try simp only [Exit.then]
          simp only [putAll, List.foldl_cons, List.foldl_nil, Option.getD_some, Act.put, List.setIfInBounds_toArray, List.set_cons_succ, List.set_cons_zero]
          have e54 : f 54 = .bool false := hv 7 _ 54 rfl rfl
          rw [e54]
          clear hv e54
          obtain ⟨g3, h3, hf3⟩ := hJ
          have HI3 : Hid (NSto w w1 b g3 (kpS ps (j + 1)) ∧ KeyAt w1 kb kpK ∧ g3.r kb = .junk ∧ WRow w1 g3.r 5 1 u10 (wantW ps keep t j).length ((wantW ps keep t j).map B8)) := Lib.hid ⟨HI.out.2.1.fr h3 hf3, HKB.out.jk (Jk.of_fr hf3 (by simp [ours])) HJB.out, (by rw [hf3.role _ HKB.out.lt]; exact HJB.out), HI.out.2.2.2.2.jk (Jk.of_fr hf3 (by simp [ours]))⟩
          clear h3 hf3
          obtain ⟨hnk, hkk3, hjk3, hwk⟩ := HI3.out
          have HIr : Hid (∀ w2 g2 v2, NSto w w2 b g2 (kpS ps (j + 1)) → KeyAt w2 kb kpK → g2.r kb = .junk → WRow w2 g2.r 5 1 v2 (wantW ps keep t (j + 1)).length ((wantW ps keep t (j + 1)).map B8) → ∃ (j' : Nat) (gj : Gh), (.int .i64 ((j : Int) + 1) : Value) = .int .i64 j' ∧ (.int .i64 ((j : Int) + 1) : Value) = .int .i64 j' ∧ j' ≤ m ∧ Hid ((∀ i, i < j' → (ps.getD i []).length ≤ 60) ∧ NSto w w2 b gj (kpS ps j') ∧ KeyAt w2 kb kpK ∧ gj.r kb = .junk ∧ WRow w2 gj.r 5 1 v2 (wantW ps keep t j').length ((wantW ps keep t j').map B8))) := Lib.hid (fun w2 g2 v2 a1 a2 a3 a4 => ⟨j + 1, g2, rfl, rfl, by omega, Lib.hid ⟨H60.out, a1, a2, a3, a4⟩⟩)
          have hlw := wantW_len (ps := ps) (keep := keep) (t := t) (j := j) (by omega) HI.out.1
          have HLW := Lib.hid hlw
          have hcw1 : w1.cell? ⟨pb, po + j, .none⟩ = some (.slice ai np ci) := (Below.cell hnk.below (World.block_lt_of_cell? w _ HCW.out)).trans HCW.out
          have HRW1 := Lib.hid (HRW.out.later hnk.below)
          clear hnk hkk3 hjk3 hwk hlw
          have hfin : ((m - (intOf (.int .i64 ((j : Int) + 1))).toNat : Nat) : Nat) < m - (intOf (.int .i64 (j : Int))).toNat := by simp [intOf]; omega
          have HFIN := Lib.hid hfin
          clear hfin
          by_cases hjk : (j : Int) < keep
          · have HWL : Hid (wantW ps keep t (j + 1) = wantW ps keep t j ++ p) := Lib.hid (by rw [wantW_lt hjk, HP.out])
            have hnmax : ((j : Int) == max keep 0) = false := by have : (j : Int) ≠ max keep 0 := by omega
                                                                 simp [this]
            go_wp2_with
              first
              | (at_builtin; refine wp_wrow rfl (.tmp 60) (.tmp 64) rfl _ _ rfl HI3.out.1 HI3.out.2.2.2 ai ci np p HRW1.out HNP.out rfl (by have := HNP.out; have := HLW.out; omega) ?_; intro v4 w4 r4 hn4 hw4 hf4)
              | fail
            refine ⟨HIr.out w4 (g3.withR r4) v4 hn4 (HI3.out.2.1.fr hf4 HI3.out.2.2.1 (by simp)) (by show r4 kb = _; rw [hf4.role _ HI3.out.2.1.lt]; exact HI3.out.2.2.1) (by rw [HWL.out]; exact hw4), HFIN.out⟩
          · by_cases hc : (j : Int) = max keep 0 ∧ 0 < t ∧ 1 < np
            · obtain ⟨hjm0, ht0, hnp1⟩ := hc
              obtain ⟨q, hq⟩ : ∃ q : Nat, (np : Int) - 1 = q := ⟨np - 1, by omega⟩
              obtain ⟨e, he⟩ : ∃ e : Nat, min t (q : Int) = e := ⟨(min t q).toNat, by omega⟩
              have hmx : ((j : Int) == max keep 0) = true := by simp [hjm0]
              have HWL : Hid (wantW ps keep t (j + 1) = wantW ps keep t j ++ p.take e) := Lib.hid (by
                rw [wantW_eq hjm0]
                unfold tailL
                rw [HP.out, HNP.out, if_pos ⟨ht0, by omega⟩]
                congr 2
                omega)
              have hec : e ≤ ci := by omega
              clear hjm0
              obtain ⟨ay, rfl⟩ : ∃ y, ai = some y := by
                rcases row_nil_or' HRW.out with ⟨_, h, _⟩ | h
                · have := HNP.out; rw [h] at this; simp at this; omega
                · exact h
              have HLT : Hid ((p.take e).length = e) := Lib.hid (by rw [List.length_take, HNP.out]; omega)
              go_upto_region 20 with fail
              have hwq : IntKind.i64.wrap (q : Int) = q := by rw [IntKind.wrap_i64]; omega
              go_still_tail 14, (by kernel_rfl)
              change wpList _ _ _ _ _ w1.drew
              have hb3 : Below w1.heap.size w1 w1.drew := (Below.refl _ _).drew
              have HN3 := Lib.hid (HI3.out.1.later hb3)
              have HK3 := Lib.hid (HI3.out.2.1.later hb3)
              have HW3 := Lib.hid (HI3.out.2.2.2.jk (Jk.of_below hb3 g3.r))
              have HRT := Lib.hid ((HRW1.out.later hb3).take e)
              clear hcw1 hb3
              generalize w1.drew = w9 at HN3 HK3 HW3 HRT ⊢
              go_wp2_with
                first
                | (at_builtin; refine wp_wrow rfl (.tmp 82) (.tmp 95) rfl _ _ rfl HN3.out HW3.out (some ay) ci e (p.take e) HRT.out HLT.out rfl (by have := HLT.out; have := HLW.out; omega) ?_; intro v4 w4 r4 hn4 hw4 hf4)
                | fail
              refine ⟨HIr.out w4 (g3.withR r4) v4 hn4 (HK3.out.fr hf4 HI3.out.2.2.1 (by simp)) (by show r4 kb = _; rw [hf4.role _ HK3.out.lt]; exact HI3.out.2.2.1) (by rw [HWL.out]; exact hw4), HFIN.out⟩
            · have HWL : Hid (wantW ps keep t (j + 1) = wantW ps keep t j) := by
                refine Lib.hid ?_
                by_cases hj2 : (j : Int) = max keep 0
                · rw [wantW_eq hj2]
                  unfold tailL
                  rw [HP.out, HNP.out, if_neg (fun h => hc ⟨hj2, h.1, by omega⟩), List.append_nil]
                · exact wantW_gt (by omega)
              have HEND : Hid ((∃ (j' : Nat) (gj : Gh), (.int .i64 ((j : Int) + 1) : Value) = .int .i64 j' ∧ (.int .i64 ((j : Int) + 1) : Value) = .int .i64 j' ∧ j' ≤ m ∧ Hid ((∀ i, i < j' → (ps.getD i []).length ≤ 60) ∧ NSto w w1 b gj (kpS ps j') ∧ KeyAt w1 kb kpK ∧ gj.r kb = .junk ∧ WRow w1 gj.r 5 1 u10 (wantW ps keep t j').length ((wantW ps keep t j').map B8))) ∧ m - (intOf (.int .i64 ((j : Int) + 1))).toNat < m - (intOf (.int .i64 (j : Int))).toNat) :=
                Lib.hid ⟨HIr.out w1 g3 u10 HI3.out.1 HI3.out.2.1 HI3.out.2.2.1 (by rw [HWL.out]; exact HI3.out.2.2.2), HFIN.out⟩
              by_cases hj2 : (j : Int) = max keep 0
              · have hmx : ((j : Int) == max keep 0) = true := by simp [hj2]
                by_cases ht0 : 0 < t
                · have hnp1 : np ≤ 1 := by have := fun h => hc ⟨hj2, ht0, h⟩; omega
                  clear hj2 hc
                  go_wp2_with fail
                  exact HEND.out
                · clear hj2 hc
                  go_wp2_with fail
                  exact HEND.out
              · have hmx : ((j : Int) == max keep 0) = false := by simp [hj2]
                clear hj2 hc
                go_wp2_with fail
                exact HEND.out
-- END K14
      · have h61 : 60 < np := by omega
        go_wp2_with fail
        refine (known_any _).mono ?_
        rintro e w11 ⟨rfl, hb11⟩
        have HB11 := Lib.hid (HI.out.2.1.below.trans (hb11.mono HI.out.2.1.below.size))
        clear hb11
        go_wp2_with fail
        go_ret
        exact ⟨rfl, HB11.out⟩
    · obtain rfl : j = m := by omega
      have HF := Lib.hid (kp_fall ps keep t j hm2 HI.out.1)
      have HON := Lib.hid (kp_one ps j hm2 HI.out.1)
      have HNS := Lib.hid HI.out.2.1
      have HKB := Lib.hid HI.out.2.2.1
      have HJB := Lib.hid HI.out.2.2.2.1
      have HWW := Lib.hid HI.out.2.2.2.2
      have HLW := Lib.hid (wantW_len (ps := ps) (keep := keep) (t := t) (j := j) hm2 HI.out.1)
      clear HI hjm hj HK3 HJ3 H4 HR HM hmc
      have hbk : Below wr.heap.size wr (wr.alloc (.cells #[.int .i64 keep] 3)) := (Below.refl _ _).alloc (Nat.le_refl _) _
      have hik : IRow (wr.alloc (.cells #[.int .i64 keep] 3)) gj.r (some ⟨wr.heap.size, 0, .none⟩) 1 [keep] := by
        refine ⟨by simp, by simp [maxLen], fun e => (by cases e), fun x hx => ?_⟩
        cases hx
        refine ⟨?_, HNS.out.sto.dom _ (Nat.le_refl _), fun i u hu => ?_⟩
        · exact (Array.getElem?_eq_some_iff.1 (MapKept.heap_alloc wr _).1).1
        · match i, hu with
          | 0, hu =>
            cases hu
            exact cell_of_block (MapKept.heap_alloc wr _).1 rfl
          | i + 1, hu => simp at hu
      have HFA := Lib.hid (fall_any _ b gj _ (HNS.out.sto.later hbk) HON.out.off (j + 2) HON.out.good (by omega) (some ⟨wr.heap.size, 0, .none⟩) 1 1 [keep] hik rfl (by omega) t)
      rw [HF.out.1] at HFA
      have HNS2 := Lib.hid (HNS.out.later hbk)
      have HKB2 := Lib.hid (HKB.out.later hbk)
      have HWW2 := Lib.hid (HWW.out.jk (Jk.of_below hbk gj.r))
      clear hik hbk HNS HKB HWW HON
      go_wp2_with fail
      refine HFA.out.mono ?_
      rintro e w6 ⟨rfl, g6, s6, f6⟩
      have HK8 := Lib.hid (HKB2.out.jk f6 HJB.out)
      have HJ8 : Hid (g6.r kb = .junk) := Lib.hid ((f6.role _ HKB2.out.lt (.inl HJB.out)).trans HJB.out)
      have H9 := Lib.hid (HNS2.out.jk s6 f6)
      have HW8 := Lib.hid (HWW2.out.jk f6)
      clear HFA HNS2 HKB2 HJB HWW2 s6 f6
      have HPW := Lib.hid (power_any w6 b g6 _ H9.out.sto)
      rw [HF.out.2.1] at HPW
      go_wp2_with fail
      refine HPW.out.mono ?_
      rintro e w7 ⟨rfl, g7, s7, f7⟩
      have HK9 := Lib.hid (HK8.out.jk (Jk.of_fr f7 (by simp [ours])) HJ8.out)
      have H10 := Lib.hid (H9.out.fr s7 f7)
      have HW9 := Lib.hid (HW8.out.jk (Jk.of_fr f7 (by simp [ours])))
      clear HPW H9 HK8 HJ8 HW8 s7 f7
      obtain ⟨k0, k1, k2, k3⟩ : w7.cell? ⟨kb, 0, .none⟩ = some (.int .i64 1) ∧ w7.cell? ⟨kb, 1, .none⟩ = some (.int .i64 0) ∧ w7.cell? ⟨kb, 2, .none⟩ = some (.int .i64 3) ∧ w7.cell? ⟨kb, 3, .none⟩ = some (.int .i64 0) := HK9.out.cells
      have HRD := Lib.hid (read_any w7 b g7 _ H10.out.sto kpK kp_ok _ HF.out.2.2.seen HF.out.2.2.why 0 1048576 (by omega) (by omega) (by simp only [obL]; have := HLW.out; omega))
      unfold kv kpK at HRD
      simp only [show ((0 : Nat) : Int) = 0 from rfl, show ((1048576 : Nat) : Int) = 1048576 from rfl] at HRD
      have e9 : ((obL (wantW ps keep t j)).bytes.drop 0).take 1048576 = wantW ps keep t j := by
        rw [List.drop_zero]
        exact List.take_of_length_le (by simp only [obL]; have := HLW.out; omega)
      rw [e9] at HRD
      clear e9
      go_wp2_with fail
      refine HRD.out.mono ?_
      rintro e w8 ⟨a8, c8, rfl, hr8, hb8⟩
      have HBE := Lib.hid (H10.out.later hb8)
      have hw10 := HW9.out.jk (Jk.of_below hb8 g7.r)
      obtain ⟨ww, cw, rfl, hrw, _⟩ := BRow.row hw10.1
      obtain ⟨nw, hnw⟩ : ∃ nw, (wantW ps keep t j).length = nw := ⟨_, rfl⟩
      obtain ⟨W, hW⟩ : ∃ W, wantW ps keep t j = W := ⟨_, rfl⟩
      rw [hW] at hnw hr8 hrw ⊢
      have hcv := conv_row_n hr8 (n := nw) hnw
      have hcv2 := conv_row_n hrw (n := nw) hnw
      simp only [hnw]
      clear hW hnw HRD hr8 hb8 hrw hw10 HW9 k0 k1 k2 k3
      go_wp2_with fail
      refine (known_any _).mono ?_
      rintro e w11 ⟨rfl, hb11⟩
      have HB11 := Lib.hid (HBE.out.below.trans (hb11.mono HBE.out.below.size))
      clear hb11
      go_wp2_with fail
      go_ret
      exact ⟨rfl, HB11.out⟩
theorem PRow.of_E {w : World} {a : Option Addr} {cap : Nat} {ps : List (List UInt8)} (h : RowE w 1 (BytesE w) a cap ps) : PRow w a cap ps :=
  ⟨h.1, h.2.1, h.2.2.1, fun x hx i p hp => by
    obtain ⟨v, h1, a, c, h2, h3⟩ := h.one hx hp
    cases h2
    exact ⟨a, c, h1, h3⟩⟩

theorem storeKeeps_walk (a0 : Option Addr) (cap : Nat) (ps : List (List UInt8)) (keep t : Int) (w : World) (hr : RowE w 1 (BytesE w) a0 cap ps) (w1 : (Lit.int .i64 keep).wf = true) (w2 : (Lit.int .i64 t).wf = true) :
    Calls Try.prog 3 #[.slice a0 ps.length cap, .int .i64 keep, .int .i64 t] w fun e w' => e = .returned (.bool true) ∧ Below w.heap.size w w' := by
  obtain ⟨m, hm⟩ : ∃ m, ps.length = m := ⟨_, rfl⟩
  by_cases h : m ≤ 20
  · rw [hm]
    exact keeps_walk a0 m cap ps keep t w (PRow.of_E hr) hm h (wf_i64 w1) (wf_i64 w2)
  · have hl : 20 < m := by omega
    have hcap : m ≤ cap := by have := hr.1; omega
    rw [hm]
    clear hr h hm
    have HK := Lib.hid (known_any w)
    go_enter Try.func3, Try.ntmps3
    go_wp2_with fail
    refine HK.out.mono ?_
    rintro e w1 ⟨rfl, hb1⟩
    go_wp2_with fail
    go_ret
    exact ⟨rfl, hb1⟩
end Go.Proofs.Ytlcenanahbaflaa
