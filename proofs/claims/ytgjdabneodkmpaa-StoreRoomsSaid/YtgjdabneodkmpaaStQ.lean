/- What a Fall leaves of one object: 'left'. -/
import Derived.Test.YtgjdabneodkmpaaStP
namespace Go.Proofs.Ytgjdabneodkmpaa
open Go.RowKit
set_option linter.unusedVariables false

def runD (ds : List Deed) (o : Option Ob) : Option Ob := ds.foldl (fun o d => doneD d o) o
theorem runD_snoc (ds : List Deed) (d : Deed) (o : Option Ob) : runD (ds ++ [d]) o = doneD d (runD ds o) := by simp [runD]
/-- Each deed can be done on what those ahead of it leave; all is small. -/
structure Past.Leg (p : Past) : Prop where
  ne : p.deeds ≠ []
  len : p.deeds.length ≤ 100000
  dry : ∀ o, p.dry = some o → o.bytes.length ≤ 16384
  can : ∀ i d, p.deeds[i]? = some d → canD d (runD (p.deeds.take i) p.dry)
theorem Past.Leg.small {p : Past} (h : p.Leg) (i : Nat) : ∀ o, runD (p.deeds.take i) p.dry = some o → o.bytes.length ≤ 16384 := by
  induction i with
  | zero => simpa [runD] using h.dry
  | succ i ih =>
    by_cases hi : i < p.deeds.length
    · have hd : p.deeds[i]? = some p.deeds[i] := List.getElem?_eq_getElem hi
      have e : p.deeds.take (i + 1) = p.deeds.take i ++ [p.deeds[i]] := by rw [List.take_add_one, hd]; rfl
      rw [e, runD_snoc]
      intro o ho
      have hc := h.can i _ hd
      rcases hc with h1 | h1 | ⟨h1, h2, h3, h4⟩ | ⟨h1, h2⟩ | ⟨h1, h2, h3, h4, h5⟩
      · simp [doneD, h1] at ho; subst ho; simp [Ob.none]
      · simp [doneD, h1] at ho
      · cases hr : runD (p.deeds.take i) p.dry with
        | none => rw [hr] at h2; cases h2
        | some o1 =>
          rw [hr] at ho
          simp [doneD, h1] at ho
          subst ho
          have := ih o1 hr
          have := writeL_len o1.bytes p.deeds[i].at_.toNat p.deeds[i].data
          simp only [Ob.wr]
          omega
      · cases hr : runD (p.deeds.take i) p.dry with
        | none => rw [hr] at h2; cases h2
        | some o1 =>
          rw [hr] at ho
          simp [doneD, h1] at ho
          subst ho
          have := ih o1 hr
          have := o1.cut_len p.deeds[i].at_
          omega
      · cases hr : runD (p.deeds.take i) p.dry with
        | none => rw [hr] at h2; cases h2
        | some o1 =>
          rw [hr] at ho
          simp [doneD, h1] at ho
          subst ho
          have := ih o1 hr
          simp only [Ob.set]
          omega
    · have e : p.deeds.take (i + 1) = p.deeds.take i := by rw [List.take_of_length_le (by omega), List.take_of_length_le (by omega)]
      rw [e]; exact ih
def leftN (p : Past) (n : Int) : Nat := (heldI n 0 p.deeds.length).toNat
theorem leftN_le (p : Past) (n : Int) : leftN p n ≤ p.deeds.length := by unfold leftN heldI; omega
theorem leftN_eq (p : Past) (n : Int) : heldI n 0 p.deeds.length = leftN p n := by unfold leftN heldI; omega
def leftO (p : Past) (n t : Int) : Option Ob := match p.deeds[leftN p n]? with
  | some d => if d.kind = 1 then doneD (tornD d t) (runD (p.deeds.take (leftN p n)) p.dry) else runD (p.deeds.take (leftN p n)) p.dry
  | .none => runD (p.deeds.take (leftN p n)) p.dry
theorem canD_torn {d : Deed} {o : Option Ob} (h : canD d o) (h1 : d.kind = 1) (t : Int) : canD (tornD d t) o := by
  rcases h with h | h | ⟨_, h2, h3, h4⟩ | ⟨h, _⟩ | ⟨h, _⟩
  · omega
  · omega
  · refine .inr (.inr (.inl ⟨h1, h2, h3, ?_⟩))
    show d.at_ + ((d.data.take _).length : Int) ≤ _
    simp only [List.length_take]
    omega
  · omega
  · omega
theorem canD_data {d : Deed} {o : Option Ob} (h : canD d o) (h1 : d.kind = 1) : d.data.length ≤ 16384 := by
  rcases h with h | h | ⟨_, h2, h3, h4⟩ | ⟨h, _⟩ | ⟨h, _⟩ <;> omega
theorem dcells_get : ∀ (l : List (Deed × Value)) (i r : Nat), r < 4 → (l.flatMap fun x => dcells x.1 x.2)[i * 4 + r]? = (l[i]?).bind fun x => (dcells x.1 x.2)[r]?
  | [], i, r, _ => by simp
  | x :: l, 0, r, h => by
    rw [List.flatMap_cons, List.getElem?_append_left (by simp [dcells]; omega)]
    simp
  | x :: l, i + 1, r, h => by
    rw [List.flatMap_cons, List.getElem?_append_right (by simp [dcells]; omega)]
    have e : (i + 1) * 4 + r - (dcells x.1 x.2).length = i * 4 + r := by simp [dcells]; omega
    rw [e, dcells_get l i r h]
    simp
/-- One deed of a row. -/
theorem DRow.get {w : World} {r : Nat → Role} {g n cap : Nat} {ds : List Deed} (h : DRow w r (.slice (some ⟨g, 0, none⟩) n cap) ds) {i : Nat} {d : Deed} (hd : ds[i]? = some d) :
    ∃ v, Shr w r v d.data ∧ w.cell? ⟨g, i * 4, none⟩ = some (.int .i64 d.kind) ∧ w.cell? ⟨g, i * 4 + 1, none⟩ = some (.int .i64 d.at_) ∧ w.cell? ⟨g, i * 4 + 2, none⟩ = some (.string ⟨d.name.toArray⟩) ∧ w.cell? ⟨g, i * 4 + 3, none⟩ = some v := by
  obtain ⟨vs, hl, ho, hs⟩ := h
  have hi : i < ds.length := (List.getElem?_eq_some_iff.1 hd).1
  have hv : vs[i]? = some vs[i] := List.getElem?_eq_getElem (by omega)
  refine ⟨vs[i], hs i d _ hd hv, ?_⟩
  have hz : (ds.zip vs)[i]? = some (d, vs[i]) := by rw [List.getElem?_zip_eq_some]; exact ⟨hd, hv⟩
  have hn : n = ds.length := by
    rcases ho.2 with ⟨h1, _⟩ | ⟨g', cap', cur, h1, _⟩
    · cases h1
    · injection h1
  subst hn
  have hc : ∀ r, r < 4 → w.cell? ⟨g, i * 4 + r, none⟩ = (dcells d vs[i])[r]? := by
    intro r hr
    have := World.ownsRow.cellAt ho (i * 4 + r) (by omega)
    rw [this, dcells_get _ i r hr, hz]; rfl
  exact ⟨hc 0 (by omega), hc 1 (by omega), hc 2 (by omega), hc 3 (by omega)⟩

set_option maxRecDepth 20000 in
theorem pleft_any (w : World) (r : Nat → Role) (k : K4) (x : Nat) (dp : Option Nat) (dv : Value) (p : Past) (h : PaAt w r k x dp dv p) (hdom : Dom w r) (n t : Int) (hp : p.Leg) :
    Calls Try.prog 43 #[.pointer (some ⟨x, 0, .none⟩), .int .i64 n, .int .i64 t] w fun e w' => DonePost w r true k (leftO p n t) e w' := by
  obtain ⟨m, hm⟩ : ∃ m, p.deeds.length = m := ⟨_, rfl⟩
  have hm0 : 0 < m := by have := List.length_pos_iff.2 hp.ne; omega
  have hm1 : m ≤ 100000 := hm ▸ hp.len
  obtain ⟨g, cap, rfl, hcap⟩ : ∃ g cap, dv = .slice (some ⟨g, 0, none⟩) m cap ∧ m ≤ cap := by
    obtain ⟨vs, hl, ho, _⟩ := h.row
    rcases ho.2 with ⟨hv, hn⟩ | ⟨g, cap, cur, hv, hb, hg, hn, hc, hs, ht⟩
    · omega
    · exact ⟨g, cap, by rw [hv, hm], by omega⟩
  have hrow := h.row
  have c0 : w.cell? ⟨x, 0, .none⟩ = some (ptrV dp) := cell_of_block h.heap rfl
  have c1 : w.cell? ⟨x, 1, .none⟩ = some (.slice (some ⟨g, 0, none⟩) m cap) := cell_of_block h.heap rfl
  obtain ⟨q, hq⟩ : ∃ q, leftN p n = q := ⟨_, rfl⟩
  have hqm : q ≤ m := by have := leftN_le p n; omega
  have HK := Lib.hid (kept_any w r k x dp _ p h n)
  rw [leftN_eq, hq] at HK
  have HDR : Hid (OpAt w r true k dp p.dry) := Lib.hid h.dry
  have HG : Hid (∀ r' w', Fr w w' r r' (ofOb true k) → w'.cell? ⟨x, 0, .none⟩ = w.cell? ⟨x, 0, .none⟩ ∧ w'.cell? ⟨x, 1, .none⟩ = some (.slice (some ⟨g, 0, none⟩) m cap) ∧ DRow w' r' (.slice (some ⟨g, 0, none⟩) m cap) p.deeds) := by
    refine Lib.hid fun r' w' hf => ?_
    have hx : w'.heap[x]? = w.heap[x]? := hf.block x h.lt (by rw [h.role]; rintro (h | h | h) <;> cases h)
    refine ⟨?_, ?_, ?_⟩
    · simp [World.cell?, hx]
    · rw [← c1]; simp [World.cell?, hx]
    · exact hrow.fr hf (fun y hy => by rw [h.rrow y hy]; rintro (h | h | h) <;> cases h) (by rintro (h | h | h) <;> cases h)
  have HRW := Lib.hid hrow
  have HDM := Lib.hid hdom
  have HP := Lib.hid hp
  have HM := Lib.hid hm
  have HQ := Lib.hid hq
  have HLO : Hid (∀ o, (match p.deeds[q]? with
    | some d => if d.kind = 1 then doneD (tornD d t) (runD (p.deeds.take q) p.dry) else runD (p.deeds.take q) p.dry
    | .none => runD (p.deeds.take q) p.dry) = o → leftO p n t = o) := by
    refine Lib.hid fun o ho => ?_
    unfold leftO
    rw [hq]; exact ho
  obtain ⟨LO, hLO⟩ : ∃ LO, leftO p n t = LO := ⟨_, rfl⟩
  rw [hLO]
  have HLE := Lib.hid hLO
  have hmm : hm1 = hm1 := rfl
  clear h hdom hp hm hq hrow hLO hmm
  go_enter Try.func43, Try.ntmps43
  go_wp2_with fail
  refine HK.out.mono ?_
  rintro e w' ⟨rfl, rfl⟩
  clear HK
  go_wp2_with fail
  go_loopw [7, 24] (fun y i wr => ∃ (j : Nat) (yo : Option Nat) (ri : Nat → Role), y = ptrV yo ∧ i = .int .i64 j ∧ j ≤ q ∧ Hid (Fr w wr r ri (ofOb true k) ∧ Dom wr ri ∧ OpAt wr ri true k yo (runD (p.deeds.take j) p.dry))) (fun _ i _ => q - (intOf i).toNat)
  case atStart => exact ⟨0, dp, r, rfl, rfl, by omega, Lib.hid ⟨Fr.refl _ _ _, HDM.out, HDR.out⟩⟩
  case round =>
    obtain ⟨j, yo, ri, rfl, rfl, hj, HI⟩ := hrel
    clear c0 c1
    by_cases hjq : j < q
    · obtain ⟨d, hd⟩ : ∃ d, p.deeds[j]? = some d := ⟨_, List.getElem?_eq_getElem (by have := HM.out; omega)⟩
      obtain ⟨_, _, hr2⟩ := HG.out _ _ HI.out.1
      obtain ⟨v, hsv, d0, d1, d2, d3⟩ := hr2.get hd
      have HSV := Lib.hid hsv
      have HDJ := Lib.hid hd
      have HCD := Lib.hid (HP.out.can j d hd)
      have HSMALL := Lib.hid (HP.out.small j)
      obtain ⟨av, nv, cv, hvs⟩ : ∃ a n c, v = .slice a n c := by obtain ⟨a, c, e, _⟩ := hsv; exact ⟨a, _, c, e⟩
      subst hvs
      clear hsv hr2 hd
      go_wp2_with fail
      have hba : Below wr.heap.size wr (wr.alloc (.cells #[.int .i64 d.kind, .int .i64 d.at_, .string ⟨d.name.toArray⟩, .slice av nv cv] 69)) := (Below.refl _ _).alloc (Nat.le_refl _) _
      refine (done_any _ ri true k yo _ (HI.out.2.2.fr (Fr.of_below hba ri (fun _ => False)) (fun _ _ h => h) (fun h => h)) HSMALL.out (HI.out.2.1.later hba.size) d (.slice av nv cv) (HSV.out.later hba) HCD.out).mono ?_
      rintro e w3 ⟨y3, r3, rfl, hf3, hd3, ho3⟩
      have e1 : runD (p.deeds.take (j + 1)) p.dry = doneD d (runD (p.deeds.take j) p.dry) := by
        have e2 : p.deeds.take (j + 1) = p.deeds.take j ++ [d] := by rw [List.take_add_one, HDJ.out]; rfl
        rw [e2, runD_snoc]
      have HI3 : Hid (Fr w w3 r r3 (ofOb true k) ∧ Dom w3 r3 ∧ OpAt w3 r3 true k y3 (runD (p.deeds.take (j + 1)) p.dry)) := Lib.hid ⟨(HI.out.1.later hba).trans hf3, hd3, by rw [e1]; exact ho3⟩
      clear hf3 hd3 ho3 e1 d0 d1 d2 d3 hba
      go_wp2_with fail
      go_roundw
      case rel => exact ⟨j + 1, y3, r3, rfl, by go_num, by omega, HI3⟩
      case measure => simp [intOf]; omega
    · obtain rfl : j = q := by omega
      clear hjq hj
      obtain ⟨e0, e1, hr2⟩ := HG.out _ _ HI.out.1
      have HR2 := Lib.hid hr2
      clear e0 hr2
      by_cases hjm : j < m
      · obtain ⟨d, hd⟩ : ∃ d, p.deeds[j]? = some d := ⟨_, List.getElem?_eq_getElem (by have := HM.out; omega)⟩
        obtain ⟨v, hsv, d0, d1, d2, d3⟩ := HR2.out.get hd
        have HSV := Lib.hid hsv
        have HDJ := Lib.hid hd
        have HCD := Lib.hid (HP.out.can j d hd)
        have HSMALL := Lib.hid (HP.out.small j)
        obtain ⟨av, nv, cv, hvs⟩ : ∃ a n c, v = .slice a n c := by obtain ⟨a, c, e, _⟩ := hsv; exact ⟨a, _, c, e⟩
        subst hvs
        clear hsv hd
        by_cases hk1 : d.kind = 1
        · have hlo := HLO.out _ rfl
          rw [HDJ.out] at hlo
          simp only [hk1, if_true] at hlo
          have HL := Lib.hid hlo
          have HK1 := Lib.hid hk1
          have hkb : (d.kind == 1) = true := by simp [hk1]
          clear hlo hk1
          go_wp2_with fail
          refine (torn_any _ ri HI.out.2.1 d (.slice av nv cv) HSV.out t (by have := canD_data HCD.out HK1.out; omega)).mono ?_
          rintro e w3 ⟨dv3, rfl, hs3, hb3⟩
          have HC3 := Lib.hid (canD_torn HCD.out HK1.out t)
          obtain ⟨d2, hd2⟩ : ∃ dt, tornD d t = dt := ⟨_, rfl⟩
          rw [hd2] at hs3 HC3 HL ⊢
          have HS3 := Lib.hid hs3
          have HB3 := Lib.hid hb3
          clear hs3 hb3 hd2 d0 d1 e1
          go_wp2_with fail
          refine (done_any _ ri true k yo _ (HI.out.2.2.fr (Fr.of_below HB3.out ri (fun _ => False)) (fun _ _ h => h) (fun h => h)) HSMALL.out (HI.out.2.1.later HB3.out.size) _ dv3 HS3.out HC3.out).mono ?_
          rintro e w4 ⟨y3, r3, rfl, hf3, hdm3, ho3⟩
          rw [HL.out.symm.trans HLE.out] at ho3
          have HP4 : Hid (Fr w w4 r r3 (ofOb true k) ∧ Dom w4 r3 ∧ OpAt w4 r3 true k y3 LO) := Lib.hid ⟨(HI.out.1.later HB3.out).trans hf3, hdm3, ho3⟩
          clear hf3 hdm3 ho3
          go_wp2_with fail
          go_ret
          exact ⟨y3, r3, rfl, HP4.out.1, HP4.out.2.1, HP4.out.2.2⟩
        · have hlo := HLO.out _ rfl
          rw [HDJ.out] at hlo
          simp only [hk1, if_false] at hlo
          have HL := Lib.hid hlo
          have hkb : (d.kind == 1) = false := by simp [hk1]
          clear hlo hk1
          go_wp2_with fail
          go_ret
          exact ⟨yo, ri, rfl, HI.out.1, HI.out.2.1, by rw [← HLE.out, HL.out]; exact HI.out.2.2⟩
      · have hlo := HLO.out _ rfl
        rw [List.getElem?_eq_none (by have := HM.out; omega)] at hlo
        have HL := Lib.hid hlo
        clear hlo
        go_wp2_with fail
        go_ret
        exact ⟨yo, ri, rfl, HI.out.1, HI.out.2.1, by rw [← HLE.out, HL.out]; exact HI.out.2.2⟩
end Go.Proofs.Ytgjdabneodkmpaa
