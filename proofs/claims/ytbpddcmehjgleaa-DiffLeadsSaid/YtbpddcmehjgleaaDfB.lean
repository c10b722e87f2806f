/- Ways: the document's own Way. -/
import Derived.Test.YtbpddcmehjgleaaDfA
import Derived.Test.YtbpddcmehjgleaaGMd
import Derived.BigQuiet
import Derived.Deep.CutBlock
namespace Go.Proofs.Ytbpddcmehjgleaa
open Go.RowKit Go.Proofs
set_option linter.unusedVariables false
set_option linter.unusedSimpArgs false
set_option linter.unnecessarySimpa false

/-! ### plain facts -/
theorem preK_is : ∀ (k : Nat) (l m : List Od), k ≤ l.length → k ≤ m.length → (∀ j, j < k → l[j]? = m[j]?) → (k = l.length ∨ k = m.length ∨ l[k]? ≠ m[k]?) → preK l m = k
  | 0, l, m, _, _, _, h => by
    cases l with
    | nil => rfl
    | cons a l =>
      cases m with
      | nil => rfl
      | cons b m =>
        unfold preK
        rw [if_neg]
        rintro rfl
        rcases h with h | h | h
        · cases h
        · cases h
        · exact h rfl
  | k + 1, l, m, h1, h2, h3, h4 => by
    cases l with
    | nil => simp at h1
    | cons a l =>
      cases m with
      | nil => simp at h2
      | cons b m =>
        have e : a = b := by have := h3 0 (by omega); simpa using this
        unfold preK
        rw [if_pos e, preK_is k l m (by simpa using h1) (by simpa using h2) (fun j hj => by have := h3 (j + 1) (by omega); simpa using this) (by simpa using h4)]
theorem uns_step {l : List Od} {i : Nat} {o : Od} (h : l[i]? = some o) : (l.drop i).reverse.map unsE = (l.drop (i + 1)).reverse.map unsE ++ [unsE o] := by
  obtain ⟨hi, rfl⟩ := List.getElem?_eq_some_iff.1 h
  rw [List.drop_eq_getElem_cons hi]
  simp only [List.reverse_cons, List.map_append, List.map_cons, List.map_nil]
theorem snaps_step {now : List UInt8} {l : List Od} {i : Nat} {o : Od} {T W : List Ev} (h : l[i]? = some o) (hw : T ++ snapsD now (l.drop i) = W) : (T ++ bytesD now o.data ++ [snE o]) ++ snapsD o.data (l.drop (i + 1)) = W := by
  obtain ⟨hi, rfl⟩ := List.getElem?_eq_some_iff.1 h
  rw [← hw, List.drop_eq_getElem_cons hi]
  show _ = T ++ ((bytesD now l[i].data ++ [snE l[i]]) ++ snapsD l[i].data (l.drop (i + 1)))
  simp
theorem last_step {now L : List UInt8} {l : List Od} {i : Nat} {o : Od} (h : l[i]? = some o) (hw : lastD now (l.drop i) = L) : lastD o.data (l.drop (i + 1)) = L := by
  obtain ⟨hi, rfl⟩ := List.getElem?_eq_some_iff.1 h
  rw [← hw, List.drop_eq_getElem_cons hi]
  unfold lastD
  cases l.drop (i + 1) with
  | nil => rfl
  | cons p q => rw [List.getLast?_cons_cons]; simp [List.getLast?_cons]
theorem piecesF_len (s b : List UInt8) : ∀ f i, (piecesF s b f i).length ≤ f
  | 0, i => Nat.le_refl _
  | f + 1, i => by
    unfold piecesF
    split
    · split
      · exact Nat.le_succ_of_le (piecesF_len s b f _)
      · simp only [List.length_cons]; have := piecesF_len s b f (i + runU s b i 64); omega
    · simp
theorem bytesD_len (a b : List UInt8) : (bytesD a b).length ≤ 514 := by
  unfold bytesD
  split
  · simp
  · have := piecesF_len (sizedL a b.length) b (b.length + 1) 0
    rw [List.length_append]
    split <;> simp only [List.length_nil, List.length_singleton] <;> omega
open Classical in
noncomputable def wayS (s t : Sx) : List Ev := if StOk s ∧ StOk t then wayD s t else []

def wvV (J : Nat → Prop) (W0 : World) (l : List Ev) : SV := ⟨fun w x => OEv J W0 w x l, fun w w' x h hb => h.later ev_rel hb⟩
def snV (W0 : World) (S : ByteArray) : SV := ⟨fun w x => ∃ g, x = .slice (some ⟨g, 0, none⟩) 1 1 ∧ RecAt w g #[.int .i64 5, .int .i64 0, .int .i64 0, .slice none 0 0, .string S] 46 ∧ W0.heap.size ≤ g, fun w w' x ⟨g, h1, h2, h3⟩ hb => ⟨g, h1, h2.later hb, h3⟩⟩
theorem snV_grown {W0 w w' : World} {S : ByteArray} {x : Value} {u : Option Nat} (h : (snV W0 S).p w x) (hg : w.grownBy w' u) (hu : ∀ b, W0.heap.size ≤ b → some b ≠ u) : (snV W0 S).p w' x := by
  obtain ⟨g, e, r, s⟩ := h
  refine ⟨g, e, ?_, s⟩
  unfold RecAt at *
  rw [hg.block g (Array.getElem?_eq_some_iff.1 r).1 (fun e => by first | exact hu g s e | exact hu g s e.symm)]
  exact r
def jWy (wa wx : World) : Nat → World → Prop
  | 0, w => Below wa.heap.size wa w ∧ Below wx.heap.size wx w
  | _ + 1, w => Below wa.heap.size wa w ∧ wx.heap.size ≤ w.heap.size
theorem jWy_st (wa wx : World) : ∀ (ph : Nat) (w1 w2 : World), jWy wa wx ph w1 → Below w1.heap.size w1 w2 → jWy wa wx ph w2
  | 0, w1, w2, h, hb => ⟨h.1.trans (hb.mono h.1.size), h.2.trans (hb.mono h.2.size)⟩
  | _ + 1, w1, w2, h, hb => ⟨h.1.trans (hb.mono h.1.size), Nat.le_trans h.2 hb.size⟩
set_option maxRecDepth 100000 in
set_option maxHeartbeats 12800000 in
theorem rway15_any (d1 v1 d2 v2 : Value) (s t : Sx) (J1 J2 : Nat → Prop) (w : World) (h1 : StA J1 w d1 v1 s) (h2 : StA J2 w d2 v2 t) :
    Calls Try.prog 19 #[.agg #[d1, v1], .agg #[d2, v2]] w fun e w' => ∃ v, e = .returned v ∧ OEv (newB w) w w' v (wayS s t) := by
  obtain ⟨WD, hWD⟩ : ∃ B, wayS s t = B := ⟨_, rfl⟩
  rw [hWD]
  have HWN : Hid (¬ (StOk s ∧ StOk t) → WD = []) := Lib.hid fun h => by rw [← hWD]; unfold wayS; rw [if_neg h]
  have HWY : Hid (StOk s ∧ StOk t → WD = wayD s t) := Lib.hid fun h => by rw [← hWD]; unfold wayS; rw [if_pos h]
  clear hWD
  obtain ⟨a1, c1, a2, c2, rfl, rfl, rd, rs⟩ := h1.open
  obtain ⟨a3, c3, a4, c4, rfl, rfl, td, ts⟩ := h2.open
  obtain ⟨X2, X3, B3⟩ := two_recsS w #[.slice a1 s.data.length c1, .slice a2 s.snaps.length c2] #[.slice a3 t.data.length c3, .slice a4 t.snaps.length c4] 32 32
  obtain ⟨w1, hw1⟩ : ∃ W, ((w.alloc (.cells #[.slice a1 s.data.length c1, .slice a2 s.snaps.length c2] 32)).alloc (.cells #[.slice a3 t.data.length c3, .slice a4 t.snaps.length c4] 32)) = W := ⟨_, rfl⟩
  rw [hw1] at X2 X3 B3
  have HRT1 := Lib.hid (rright14_any _ _ s J1 w1 (h1.later B3))
  have HRT2 := Lib.hid fun wx (hb : Below w1.heap.size w1 wx) => rright14_any _ _ t J2 wx ((h2.later B3).later hb)
  obtain ⟨nd, hnd⟩ : ∃ z, s.data.length = z := ⟨_, rfl⟩
  obtain ⟨ns, hns⟩ : ∃ z, s.snaps.length = z := ⟨_, rfl⟩
  obtain ⟨md, hmd⟩ : ∃ z, t.data.length = z := ⟨_, rfl⟩
  obtain ⟨ms, hms⟩ : ∃ z, t.snaps.length = z := ⟨_, rfl⟩
  rw [hnd] at X2 hw1 HRT1 ⊢
  rw [hns] at X2 hw1 rs HRT1 ⊢
  rw [hmd] at X3 hw1 HRT2 ⊢
  rw [hms] at X3 hw1 ts HRT2 ⊢
  have HX2 := Lib.hid X2
  have HX3 := Lib.hid X3
  have HB3 := Lib.hid B3
  have HRS := Lib.hid (rs.later od_rel B3)
  have HTS := Lib.hid (ts.later od_rel B3)
  have HRD := Lib.hid (rd.later B3)
  have HTD := Lib.hid (td.later B3)
  have HND := Lib.hid hnd
  have HMD := Lib.hid hmd
  have HNS := Lib.hid hns
  have HMS := Lib.hid hms
  obtain ⟨hl1, hl2⟩ := rs.lim
  obtain ⟨hl3, hl4⟩ := ts.lim
  clear X2 X3 B3 rd rs td ts h1 h2 hnd hns hmd hms
  go_enter Try.func19, Try.ntmps19
  go_upto_region 1 with fail
  try rw [hw1]
  clear hw1
  obtain ⟨X, hX⟩ : ∃ X, w.heap.size = X := ⟨_, rfl⟩
  rw [hX] at HX2 HX3 ⊢
  have HXS := Lib.hid hX
  clear hX
  obtain ⟨x0, x1⟩ := HX2.out.c2
  obtain ⟨y0, y1⟩ := HX3.out.c2
  go_wp2_with fail
  refine HRT1.out.mono ?_
  rintro e w2 ⟨B1, rfl, hB1, b2⟩
  have HB2 := Lib.hid b2
  have HO1 := Lib.hid hB1
  clear b2 hB1 x0 x1 y0 y1 HRT1
  obtain ⟨x0, x1⟩ := (HX2.out.later HB2.out).c2
  obtain ⟨y0, y1⟩ := (HX3.out.later HB2.out).c2
  cases B1 with
  | false =>
    have HF : Hid (WD = []) := Lib.hid (HWN.out fun h => by have := HO1.out.2 h.1; cases this)
    go_wp2_with fail
    go_ret
    exact ⟨_, rfl, by rw [HF.out]; exact NOwn.nil' (HB3.out.trans (HB2.out.mono HB3.out.size))⟩
  | true =>
    go_wp2_with fail
    refine (HRT2.out w2 HB2.out).mono ?_
    rintro e w3 ⟨B2, rfl, hB2, b3⟩
    have HB4 := Lib.hid (HB2.out.trans (b3.mono HB2.out.size))
    have HO2 := Lib.hid hB2
    clear b3 hB2 x0 x1 y0 y1 HRT2 HB2
    obtain ⟨x0, x1⟩ := (HX2.out.later HB4.out).c2
    obtain ⟨y0, y1⟩ := (HX3.out.later HB4.out).c2
    cases B2 with
    | false =>
      have HF : Hid (WD = []) := Lib.hid (HWN.out fun h => by have := HO2.out.2 h.2; cases this)
      go_wp2_with fail
      go_ret
      exact ⟨_, rfl, by rw [HF.out]; exact NOwn.nil' (HB3.out.trans (HB4.out.mono HB3.out.size))⟩
    | true =>
      have HS : Hid (StOk s) := Lib.hid (HO1.out.1 (by trivial))
      have HT : Hid (StOk t) := Lib.hid (HO2.out.1 (by trivial))
      obtain ⟨K, hK⟩ : ∃ K, preK s.snaps t.snaps = K := ⟨_, rfl⟩
      have HKS : Hid (∀ k, k ≤ ns → k ≤ ms → (∀ j, j < k → s.snaps[j]? = t.snaps[j]?) → (k = ns ∨ k = ms ∨ s.snaps[k]? ≠ t.snaps[k]?) → K = k) := Lib.hid fun k q1 q2 q3 q4 => by
        rw [← hK]; exact preK_is k _ _ (by rw [HNS.out]; exact q1) (by rw [HMS.out]; exact q2) q3 (by rw [HNS.out, HMS.out]; exact q4)
      have HWD : Hid (WD = (s.snaps.drop K).reverse.map unsE ++ (snapsD s.data (t.snaps.drop K) ++ bytesD (lastD s.data (t.snaps.drop K)) t.data)) := Lib.hid (by rw [HWY.out ⟨HS.out, HT.out⟩, ← hK]; rfl)
      have hKn : K ≤ ns ∧ K ≤ ms := by rw [← hK, ← HNS.out, ← HMS.out]; exact preK_le _ _
      have hns8 : ns ≤ 8 := by rw [← HNS.out]; exact HS.out.many
      have hms8 : ms ≤ 8 := by rw [← HMS.out]; exact HT.out.many
      clear hK HWN HWY HO1 HO2
      go_upto_block 0 with fail
      go_cut [6] from 18 to 63 (fun k wx => k = .int .i64 K ∧ ∃ z, wx = w3.drewN z)
      case first =>
        go_wp2_with fail
        go_loopw [6] (fun k wr => ∃ q : Nat, k = .int .i64 q ∧ q ≤ ns ∧ q ≤ ms ∧ (∃ z, wr = w3.drewN z) ∧ Hid (∀ j, j < q → s.snaps[j]? = t.snaps[j]?)) (fun k _ => ns - (intOf k).toNat)
        case atStart => exact ⟨0, rfl, by omega, by omega, ⟨0, rfl⟩, Lib.hid fun j h => by omega⟩
        case round =>
          obtain ⟨q, rfl, hq1, hq2, ⟨z, rfl⟩, HA⟩ := hrel
          by_cases hqn : q < ns
          · have hd1 : decide ((q : Int) < (ns : Int)) = true := decide_eq_true (by omega)
            by_cases hqm : q < ms
            · have hd2 : decide ((q : Int) < (ms : Int)) = true := decide_eq_true (by omega)
              obtain ⟨e, he⟩ : ∃ e, s.snaps[q]? = some e := ⟨s.snaps[q]'(by have := HNS.out; omega), List.getElem?_eq_getElem _⟩
              obtain ⟨u, hu⟩ : ∃ e, t.snaps[q]? = some e := ⟨t.snaps[q]'(by have := HMS.out; omega), List.getElem?_eq_getElem _⟩
              obtain ⟨b1, f1, N1, e1, k1, rfl, p0, p1, hN1, -, R1⟩ := (HRS.out.later od_rel HB4.out).o2 he
              obtain ⟨b2, f2, N2, e2, k2, rfl, r0, r1, hN2, -, R2⟩ := (HTS.out.later od_rel HB4.out).o2 hu
              have HC1 := fun nq => conv_row (R1.later (below_drewN w3 nq))
              have HC2 := fun nq => conv_row (R2.later (below_drewN w3 nq))
              have HNM := Lib.hid (str_iff hN1 hN2)
              have HDM : Hid (((⟨e.data.toArray⟩ : ByteArray) = ⟨u.data.toArray⟩) ↔ e.data = u.data) := Lib.hid bytes_eq
              have HNE : Hid (e ≠ u → K = q) := Lib.hid fun h => HKS.out q hq1 hq2 HA.out (.inr (.inr fun h2 => by rw [he, hu] at h2; exact h (Option.some.inj h2)))
              have HEQ : Hid (e = u → ∀ k, k < q + 1 → s.snaps[k]? = t.snaps[k]?) := Lib.hid fun h k hk => by
                by_cases c : k = q
                · subst c; rw [he, hu, h]
                · exact HA.out k (by omega)
              clear he hu R1 R2 hN1 hN2
              generalize (⟨e.data.toArray⟩ : ByteArray) = D1 at *
              generalize (⟨u.data.toArray⟩ : ByteArray) = D2 at *
              generalize e.data.length = L1 at *
              generalize u.data.length = L2 at *
              by_cases hnn : e.name = u.name
              · have hqa : (N1.toList == N2.toList) = true := (sbeq_iff _ _).2 (HNM.out.2 hnn)
                by_cases hdd : e.data = u.data
                · have hqc : (D1.toList == D2.toList) = true := (sbeq_iff _ _).2 (HDM.out.2 hdd)
                  have HA2 := Lib.hid (HEQ.out (od_eq hnn hdd))
                  clear hnn hdd HA
                  go_upto_region 5 with fail
                  go_quiet (fail)
                  clear HC1 HC2 p0 p1 r0 r1
                  go_wp2_with fail
                  go_roundw
                  case rel => exact ⟨q + 1, by go_num, by omega, by omega, ⟨_, rfl⟩, HA2⟩
                  case measure => simp [intOf]; omega
                · have hqc : (D1.toList == D2.toList) = false := sbeq_no fun h => hdd (HDM.out.1 h)
                  have HF := Lib.hid (HNE.out (od_ne_data hdd))
                  clear hnn hdd HA
                  go_upto_region 5 with fail
                  go_quiet (fail)
                  clear HC1 HC2 p0 p1 r0 r1
                  go_wp2_with fail
                  go_meet
                  case rel => exact ⟨by rw [HF.out], _, World.drewN_drewN _ _ _⟩
              · have hqa : (N1.toList == N2.toList) = false := sbeq_no fun h => hnn (HNM.out.1 h)
                have HF := Lib.hid (HNE.out (od_ne_name hnn))
                clear hnn HA
                go_upto_region 5 with fail
                go_quiet (fail)
                clear HC1 HC2 p0 p1 r0 r1
                go_wp2_with fail
                go_meet
                case rel => exact ⟨by rw [HF.out], _, World.drewN_drewN _ _ _⟩
            · have hd2 : decide ((q : Int) < (ms : Int)) = false := decide_eq_false (by omega)
              have HF := Lib.hid (HKS.out q hq1 hq2 HA.out (.inr (.inl (by omega))))
              go_upto_region 5 with fail
              go_quiet (fail)
              go_wp2_with fail
              go_meet
              case rel => exact ⟨by rw [HF.out], _, World.drewN_drewN _ _ _⟩
          · have hd1 : decide ((q : Int) < (ns : Int)) = false := decide_eq_false (by omega)
            have HF := Lib.hid (HKS.out q hq1 hq2 HA.out (.inl (by omega)))
            go_upto_region 5 with fail
            go_quiet (fail)
            go_wp2_with fail
            go_meet
            case rel => exact ⟨by rw [HF.out], _, World.drewN_drewN _ _ _⟩
      case rest =>
        obtain ⟨rfl, z, rfl⟩ := hcut
        have HBB := Lib.hid (HB4.out.trans ((below_drewN w3 z).mono HB4.out.size))
        clear HB4 x0 x1 y0 y1 HKS
        generalize w3.drewN z = wa at HBB ⊢
        obtain ⟨hK1, hK2⟩ := hKn
        obtain ⟨x0, x1⟩ := (HX2.out.later HBB.out).c2
        obtain ⟨y0, y1⟩ := (HX3.out.later HBB.out).c2
        have hwz : IntKind.i64.wrap ((ns : Int) - 1) = (ns : Int) - 1 := by rw [IntKind.wrap_i64]; omega
        have HO0 : Hid (OEv (newB w) wa wa (.slice none 0 0) ((s.snaps.drop ns).reverse.map unsE)) := Lib.hid (by
          rw [List.drop_eq_nil_of_le (by rw [HNS.out]; exact Nat.le_refl _)]
          exact NOwn.nil' (Below.refl _ _))
        have HWA := Lib.hid (HB3.out.trans (HBB.out.mono HB3.out.size))
        go_wp2_with fail
        go_loopw [5, 7] (fun ov i wr => ∃ (I : Int) (ii : Nat), i = .int .i64 I ∧ I = (ii : Int) - 1 ∧ K ≤ ii ∧ ii ≤ ns ∧ Hid (OEv (newB w) wa wr ov ((s.snaps.drop ii).reverse.map unsE))) (fun _ i _ => (intOf i + 1).toNat)
        case atStart => exact ⟨_, ns, rfl, rfl, by omega, by omega, HO0⟩
        case round =>
          obtain ⟨I, ii, rfl, hI, hi1, hi2, HO⟩ := hrel
          clear HO0
          obtain ⟨wo, hwo⟩ : ∃ W, W = wr := ⟨_, rfl⟩
          subst hwo
          have HBW := Lib.hid (HBB.out.trans (HO.out.below.mono HBB.out.size))
          obtain ⟨x0, x1⟩ := (HX2.out.later HBW.out).c2
          obtain ⟨y0, y1⟩ := (HX3.out.later HBW.out).c2
          by_cases hc : I ≥ (K : Int)
          · have hcd : decide (I ≥ (K : Int)) = true := decide_eq_true hc
            obtain ⟨q, rfl⟩ : ∃ q : Nat, I = q := ⟨I.toNat, by omega⟩
            obtain rfl : ii = q + 1 := by omega
            obtain ⟨o, ho⟩ : ∃ e, s.snaps[q]? = some e := ⟨s.snaps[q]'(by have := HNS.out; omega), List.getElem?_eq_getElem _⟩
            have HST := Lib.hid (uns_step ho)
            obtain ⟨b1, f1, N1, e1, k1, rfl, p0, p1, hN1, hN2, R1⟩ := (HRS.out.later od_rel HBW.out).o2 ho
            obtain ⟨T, hT⟩ : ∃ T, (s.snaps.drop (q + 1)).reverse.map unsE = T := ⟨_, rfl⟩
            have HTL : Hid (T.length ≤ 8) := Lib.hid (by rw [← hT, List.length_map, List.length_reverse, List.length_drop, HNS.out]; omega)
            rw [hT] at HO HST
            have HEL : Hid (EvL (lessJ (newB w) u5) wo [.int .i64 6, .int .i64 0, .int .i64 0, .slice none 0 0, .string N1] (unsE o)) := Lib.hid ⟨_, N1, rfl, hN1, hN2, BQ.nil _ _⟩
            have hqn : (q : Int) < (ns : Int) := by omega
            have hw1 : IntKind.i64.wrap ((q : Int) - 1) = (q : Int) - 1 := by rw [IntKind.wrap_i64]; omega
            have hI9 : (q : Int) - 1 = ((q : Nat) : Int) - 1 := rfl
            have hqK : K ≤ q := by omega
            have hqN : q ≤ ns := by omega
            clear hT ho hN1 hN2 R1 p1 hI hI9
            go_wp2_with (at_builtin; refine wp_nonL evT_ok ev_rel rfl (.tmp 73) (.tmp 81) rfl _ T rfl wa HO.out (unsE o) HEL.out rfl (by intro u hu; simp only [List.mem_cons, List.not_mem_nil, or_false] at hu; rcases hu with rfl | rfl | rfl | rfl | rfl <;> rfl) rfl (by have := HTL.out; omega) ?_; intro v9 w9 o9 g9 e9)
            go_roundw
            case rel => exact ⟨_, q, rfl, rfl, hqK, hqN, Lib.hid (by rw [HST.out]; exact o9)⟩
            case measure => simp [intOf]
          · have hcd : decide (I ≥ (K : Int)) = false := decide_eq_false hc
            have hiK : ii = K := by omega
            have HO1 : Hid (OEv (newB w) wa wo u5 ((s.snaps.drop K).reverse.map unsE)) := Lib.hid (by rw [← hiK]; exact HO.out)
            clear hiK hI hi1 hi2 HO
            obtain ⟨UL, hUL⟩ : ∃ l, (s.snaps.drop K).reverse.map unsE = l := ⟨_, rfl⟩
            have HUL : Hid (UL.length ≤ 8) := Lib.hid (by rw [← hUL, List.length_map, List.length_reverse, List.length_drop, HNS.out]; omega)
            obtain ⟨WS, hWS⟩ : ∃ l, UL ++ snapsD s.data (t.snaps.drop K) = l := ⟨_, rfl⟩
            obtain ⟨LS, hLS⟩ : ∃ l, lastD s.data (t.snaps.drop K) = l := ⟨_, rfl⟩
            have HWR : Hid (WD = WS ++ bytesD LS t.data) := Lib.hid (by rw [HWD.out, hUL, hLS, ← hWS, List.append_assoc])
            rw [hUL] at HO1
            have HWS := Lib.hid hWS
            have HLS := Lib.hid hLS
            have HNO := Lib.hid (HRD.out.later HBB.out)
            have hnd5 : nd ≤ 100000 := by have := HS.out.size; rw [HND.out] at this; omega
            clear hUL hWS hLS HWD
            go_wp2_with fail
            go_loopw [5, 8, 9] (fun ov nv i wr => ∃ (I : Nat) (T : List Ev) (now : List UInt8) (a8 : Option Addr) (n8 c8 : Nat), i = .int .i64 I ∧ nv = .slice a8 n8 c8 ∧ n8 ≤ 100000 ∧ K ≤ I ∧ I ≤ ms ∧ T.length ≤ 8 + 600 * I ∧ Hid (now.length = n8) ∧ Hid (OEv (newB w) wa wr ov T) ∧ Hid (Row wa a8 c8 now) ∧ Hid (T ++ snapsD now (t.snaps.drop I) = WS) ∧ Hid (lastD now (t.snaps.drop I) = LS)) (fun _ _ i _ => ms - (intOf i).toNat)
            case atStart => exact ⟨K, UL, s.data, a1, nd, c1, rfl, rfl, hnd5, Nat.le_refl _, hK2, by have := HUL.out; omega, HND, HO1, HNO, HWS, HLS⟩
            case round =>
              obtain ⟨I, T, now, a8, n8, c8, rfl, rfl, hn8, hI1, hI2, hTL, HN8, HO, HR8, HW8, HL8⟩ := hrel
              clear HO1 HNO HWS HLS hnd5
              obtain ⟨wx, hwx⟩ : ∃ W, W = wr := ⟨_, rfl⟩
              subst hwx
              have HBV := Lib.hid (HBB.out.trans (HO.out.below.mono HBB.out.size))
              obtain ⟨x0, x1⟩ := (HX2.out.later HBV.out).c2
              obtain ⟨y0, y1⟩ := (HX3.out.later HBV.out).c2
              by_cases hIm : (I : Int) < (ms : Int)
              · have hId : decide ((I : Int) < (ms : Int)) = true := decide_eq_true hIm
                obtain ⟨o, ho⟩ : ∃ e, t.snaps[I]? = some e := ⟨t.snaps[I]'(by have := HMS.out; omega), List.getElem?_eq_getElem _⟩
                obtain ⟨b4, f4, N1, e4, k4, rfl, p0, p1, hN1, hN2, R4⟩ := (HTS.out.later od_rel HBB.out).o2 ho
                have HW9 := Lib.hid (snaps_step ho HW8.out)
                have HL9 := Lib.hid (last_step ho HL8.out)
                have hsz : o.data.length ≤ 512 := HT.out.sizes o (List.mem_of_getElem? ho)
                obtain ⟨L4, hL4⟩ : ∃ z, o.data.length = z := ⟨_, rfl⟩
                rw [hL4] at p1 hsz
                have HL4 := Lib.hid hL4
                have HL5 : Hid (L4 ≤ 100000) := Lib.hid (by omega)
                have HR4 := Lib.hid R4
                have HN1 := Lib.hid (And.intro hN1 hN2)
                obtain ⟨BB, hBB⟩ : ∃ l, bytesD now o.data = l := ⟨_, rfl⟩
                obtain ⟨BL, hBL⟩ : ∃ l, BB.length = l := ⟨_, rfl⟩
                have hBL2 : BL ≤ 514 := by rw [← hBL, ← hBB]; exact bytesD_len _ _
                rw [hBB] at HW9
                have HBB2 := Lib.hid hBB
                have HBL := Lib.hid hBL
                have HIM : Hid ((I : Int) < (ms : Int)) := Lib.hid hIm
                have HLN : Hid (T.length + BB.length ≤ 1000000) := Lib.hid (by rw [hBL]; omega)
                have HLN2 : Hid ((T ++ BB).length + 1 ≤ 1000000) := Lib.hid (by rw [List.length_append, hBL]; omega)
                have HTL9 : Hid ((T ++ BB ++ [snE o]).length ≤ 8 + 600 * (I + 1)) := Lib.hid (by rw [List.length_append, List.length_append, hBL, List.length_singleton]; omega)
                have HX3A := Lib.hid (HX3.out.later HBB.out)
                have HOB : Hid (∀ b, wx.heap.size ≤ b → some b ≠ u5.ownBlock) := Lib.hid fun b h e => by have := (HO.out.ltB e.symm).2; omega
                have HWX : Hid (w.heap.size ≤ wx.heap.size) := Lib.hid (Nat.le_trans HWA.out.size HO.out.below.size)
                have HP0 : Hid (∀ wq, Below wa.heap.size wa wq → wq.cell? ⟨b4, f4 + I * 2, none⟩ = some (.string N1)) := Lib.hid fun wq hb => (Below.cell hb (World.block_lt_of_cell? _ _ p0)).trans p0
                have HP1 : Hid (∀ wq, Below wa.heap.size wa wq → wq.cell? ⟨b4, f4 + I * 2 + 1, none⟩ = some (.slice e4 L4 k4)) := Lib.hid fun wq hb => (Below.cell hb (World.block_lt_of_cell? _ _ p1)).trans p1
                have uq0 := Try.underlying23
                have ue1 := Try.underlying46
                clear p0 p1 hN1 hN2 R4 hL4 hBB hBL ho
                obtain ⟨y0, y1⟩ := (HX3.out.later HBV.out).c2
                go_upto_region 15 with fail
                clear x0 x1 y0 y1
                -- REG W15
                refine wp_region_ptab (L := fun ph => match ph with | 0 => [cV (u5), cV (.slice a8 n8 c8), cV (.pointer (some ⟨X + 1, 1, none⟩)), cV (.slice (some ⟨b4, f4, none⟩) ms c4), cV (.int .i64 (I : Nat)), cV (.pointer (some ⟨b4, f4 + I * 2, none⟩)), cV (.pointer (some ⟨b4, f4 + I * 2 + 1, none⟩)), cV (.slice e4 L4 k4), wvV (newB wx) wx BB, nV, cV (.pointer (some ⟨X + 1, 1, none⟩)), cV (.slice (some ⟨b4, f4, none⟩) ms c4), cV (.int .i64 (I : Nat)), cV (.pointer (some ⟨b4, f4 + I * 2, none⟩)), cV (.pointer (some ⟨b4, f4 + I * 2, none⟩)), cV (.string N1), cV (.agg #[.int .i64 5, .int .i64 0, .int .i64 0, .slice none 0 0, .string N1]), snV wx N1, nV, nV] | 1 => [cV (u5), cV (.slice a8 n8 c8), cV (.pointer (some ⟨X + 1, 1, none⟩)), cV (.slice (some ⟨b4, f4, none⟩) ms c4), cV (.int .i64 (I : Nat)), cV (.pointer (some ⟨b4, f4 + I * 2, none⟩)), cV (.pointer (some ⟨b4, f4 + I * 2 + 1, none⟩)), cV (.slice e4 L4 k4), tV, wvV (newB w) wa (T ++ BB), cV (.pointer (some ⟨X + 1, 1, none⟩)), cV (.slice (some ⟨b4, f4, none⟩) ms c4), cV (.int .i64 (I : Nat)), cV (.pointer (some ⟨b4, f4 + I * 2, none⟩)), cV (.pointer (some ⟨b4, f4 + I * 2, none⟩)), cV (.string N1), cV (.agg #[.int .i64 5, .int .i64 0, .int .i64 0, .slice none 0 0, .string N1]), snV wx N1, nV, nV] | _ => [cV (u5), cV (.slice a8 n8 c8), cV (.pointer (some ⟨X + 1, 1, none⟩)), cV (.slice (some ⟨b4, f4, none⟩) ms c4), cV (.int .i64 (I : Nat)), cV (.pointer (some ⟨b4, f4 + I * 2, none⟩)), cV (.pointer (some ⟨b4, f4 + I * 2 + 1, none⟩)), cV (.slice e4 L4 k4), tV, tV, cV (.pointer (some ⟨X + 1, 1, none⟩)), cV (.slice (some ⟨b4, f4, none⟩) ms c4), cV (.int .i64 (I : Nat)), cV (.pointer (some ⟨b4, f4 + I * 2, none⟩)), cV (.pointer (some ⟨b4, f4 + I * 2, none⟩)), cV (.string N1), cV (.agg #[.int .i64 5, .int .i64 0, .int .i64 0, .slice none 0 0, .string N1]), tV, wvV (newB w) wa (T ++ BB ++ [snE o]), wvV (newB w) wa (T ++ BB ++ [snE o])]) (jWy wa wx) [9, 18] [(0, 0), (0, 0), (0, 0), (0, 0), (0, 0), (0, 0), (0, 0), (0, 0), (0, 0), (0, 1), (0, 1), (0, 1), (0, 1), (0, 1), (0, 1), (0, 1), (0, 1), (0, 1), (1, 2), (2, 2)] [[(5, none)], [(8, none)], [(3, none)], [(95, some 2)], [(9, none)], [(96, some 3), (97, some 4)], [(98, some 5)], [(99, some 6)], [(94, some 1), (100, some 7)], [(93, some 0), (101, some 8)], [(3, none)], [(103, some 10)], [(9, none)], [(104, some 11), (105, some 12)], [(106, some 13)], [(107, some 14)], [(108, some 15)], [(109, some 16)], [(102, some 9), (110, some 17)], [(111, some 18)]] 20 2 124 (by kernel_rfl) rfl rfl rfl (by kernel_rfl) (by kernel_rfl) (by decide) (by kernel_rfl) ?_ ?_ ?_ ?_ ?_
                · exact jWy_st wa wx
                · exact ⟨HO.out.below, Below.refl _ _⟩
                · show ∀ i, i < 20 → _
                  iterate 20 (refine fls ?_ ?_)
                  · exact fl0
                  · intro hne lo hi ph hran hp1 hp2 a w1 hJ hsz hs      -- 0: slot 93
                    obtain ⟨rfl, rfl⟩ : 0 = lo ∧ 0 = hi := Prod.mk.inj (Option.some.inj hran)
                    obtain rfl : ph = 0 := by omega
                    obtain ⟨h0, _⟩ := hs
                    have h0 : a.tmps.getD 5 undef = u5 := h0
                    refine op_run rfl rfl (v := u5) (w' := w1) ?_ rfl (Below.refl _ _)
                    simp [execOp, Act.eval, h0, go_sem]
                  · intro hne lo hi ph hran hp1 hp2 a w1 hJ hsz hs      -- 1: slot 94
                    obtain ⟨rfl, rfl⟩ : 0 = lo ∧ 0 = hi := Prod.mk.inj (Option.some.inj hran)
                    obtain rfl : ph = 0 := by omega
                    obtain ⟨h0, _⟩ := hs
                    have h0 : a.tmps.getD 8 undef = .slice a8 n8 c8 := h0
                    refine op_run rfl rfl (v := .slice a8 n8 c8) (w' := w1) ?_ rfl (Below.refl _ _)
                    simp [execOp, Act.eval, h0, go_sem]
                  · intro hne lo hi ph hran hp1 hp2 a w1 hJ hsz hs      -- 2: slot 95
                    obtain ⟨rfl, rfl⟩ : 0 = lo ∧ 0 = hi := Prod.mk.inj (Option.some.inj hran)
                    obtain rfl : ph = 0 := by omega
                    obtain ⟨h0, _⟩ := hs
                    have h0 : a.tmps.getD 3 undef = .pointer (some ⟨X + 1, 0, none⟩) := h0
                    refine op_run rfl rfl (v := .pointer (some ⟨X + 1, 1, none⟩)) (w' := w1) ?_ rfl (Below.refl _ _)
                    simp [execOp, Act.eval, h0, go_sem]
                  · intro hne lo hi ph hran hp1 hp2 a w1 hJ hsz hs      -- 3: slot 96
                    obtain ⟨rfl, rfl⟩ : 0 = lo ∧ 0 = hi := Prod.mk.inj (Option.some.inj hran)
                    obtain rfl : ph = 0 := by omega
                    obtain ⟨h0, _⟩ := hs
                    have h0 : a.tmps.getD 95 undef = .pointer (some ⟨X + 1, 1, none⟩) := h0
                    have k0 : w1.cell? ⟨X + 1, 1, none⟩ = some (.slice (some ⟨b4, f4, none⟩) ms c4) := (HX3A.out.later (show Below wa.heap.size wa w1 from hJ.1)).c2.2
                    refine op_run rfl rfl (v := .slice (some ⟨b4, f4, none⟩) ms c4) (w' := w1) ?_ rfl (Below.refl _ _)
                    simp [execOp, Act.eval, h0, k0, go_sem]
                  · intro hne lo hi ph hran hp1 hp2 a w1 hJ hsz hs      -- 4: slot 97
                    obtain ⟨rfl, rfl⟩ : 0 = lo ∧ 0 = hi := Prod.mk.inj (Option.some.inj hran)
                    obtain rfl : ph = 0 := by omega
                    obtain ⟨h0, _⟩ := hs
                    have h0 : a.tmps.getD 9 undef = .int .i64 (I : Nat) := h0
                    refine op_run rfl rfl (v := .int .i64 (I : Nat)) (w' := w1) ?_ rfl (Below.refl _ _)
                    simp [execOp, Act.eval, h0, go_sem]
                  · intro hne lo hi ph hran hp1 hp2 a w1 hJ hsz hs      -- 5: slot 98
                    obtain ⟨rfl, rfl⟩ : 0 = lo ∧ 0 = hi := Prod.mk.inj (Option.some.inj hran)
                    obtain rfl : ph = 0 := by omega
                    obtain ⟨h0, h1, _⟩ := hs
                    have h0 : a.tmps.getD 96 undef = .slice (some ⟨b4, f4, none⟩) ms c4 := h0
                    have h1 : a.tmps.getD 97 undef = .int .i64 (I : Nat) := h1
                    have k1 := HIM.out
                    refine op_run rfl rfl (v := .pointer (some ⟨b4, f4 + I * 2, none⟩)) (w' := w1) ?_ rfl (Below.refl _ _)
                    simp [execOp, Act.eval, h0, h1, k1, go_sem]
                  · intro hne lo hi ph hran hp1 hp2 a w1 hJ hsz hs      -- 6: slot 99
                    obtain ⟨rfl, rfl⟩ : 0 = lo ∧ 0 = hi := Prod.mk.inj (Option.some.inj hran)
                    obtain rfl : ph = 0 := by omega
                    obtain ⟨h0, _⟩ := hs
                    have h0 : a.tmps.getD 98 undef = .pointer (some ⟨b4, f4 + I * 2, none⟩) := h0
                    refine op_run rfl rfl (v := .pointer (some ⟨b4, f4 + I * 2 + 1, none⟩)) (w' := w1) ?_ rfl (Below.refl _ _)
                    simp [execOp, Act.eval, h0, go_sem]
                  · intro hne lo hi ph hran hp1 hp2 a w1 hJ hsz hs      -- 7: slot 100
                    obtain ⟨rfl, rfl⟩ : 0 = lo ∧ 0 = hi := Prod.mk.inj (Option.some.inj hran)
                    obtain rfl : ph = 0 := by omega
                    obtain ⟨h0, _⟩ := hs
                    have h0 : a.tmps.getD 99 undef = .pointer (some ⟨b4, f4 + I * 2 + 1, none⟩) := h0
                    have k1 := HP1.out w1 (show Below wa.heap.size wa w1 from hJ.1)
                    refine op_run rfl rfl (v := .slice e4 L4 k4) (w' := w1) ?_ rfl (Below.refl _ _)
                    simp [execOp, Act.eval, h0, k1, go_sem]
                  · intro hne lo hi ph hran hp1 hp2 a w1 hJ hsz hs      -- 8: slot 101
                    obtain ⟨rfl, rfl⟩ : 0 = lo ∧ 0 = hi := Prod.mk.inj (Option.some.inj hran)
                    obtain rfl : ph = 0 := by omega
                    obtain ⟨h0, h1, _⟩ := hs
                    have h0 : a.tmps.getD 94 undef = .slice a8 n8 c8 := h0
                    have h1 : a.tmps.getD 100 undef = .slice e4 L4 k4 := h1
                    refine op_call rfl rfl (f := 13) (args := #[.slice a8 n8 c8, .slice e4 L4 k4]) (by simp [execOp, Act.eval, resolve, h0, h1, go_sem]) ?_
                    exact (rbytes15_any a8 e4 n8 L4 c8 k4 now o.data w1 (HR8.out.later (show Below wa.heap.size wa w1 from hJ.1)) (HR4.out.later (show Below wa.heap.size wa w1 from hJ.1)) HN8.out HL4.out hn8 HL5.out).mono fun e w' he => by
                      obtain ⟨v, h1, h2⟩ := he
                      rw [HBB2.out] at h2
                      exact ⟨_, h1, (h2.weakJ ev_rel fun b _ h => Nat.le_trans ((show Below wx.heap.size wx w1 from hJ.2)).size h).back (show Below wx.heap.size wx w1 from hJ.2), h2.below⟩
                  · intro hne lo hi ph hran hp1 hp2 a w1 hJ hsz hs      -- 9: slot 102
                    exact absurd (by decide) hne
                  · intro hne lo hi ph hran hp1 hp2 a w1 hJ hsz hs      -- 10: slot 103
                    obtain ⟨rfl, rfl⟩ : 0 = lo ∧ 1 = hi := Prod.mk.inj (Option.some.inj hran)
                    rcases (by omega : ph = 0 ∨ ph = 1) with rfl | rfl
                    · obtain ⟨h0, _⟩ := hs
                      have h0 : a.tmps.getD 3 undef = .pointer (some ⟨X + 1, 0, none⟩) := h0
                      refine op_run rfl rfl (v := .pointer (some ⟨X + 1, 1, none⟩)) (w' := w1) ?_ rfl (Below.refl _ _)
                      simp [execOp, Act.eval, h0, go_sem]
                    · obtain ⟨h0, _⟩ := hs
                      have h0 : a.tmps.getD 3 undef = .pointer (some ⟨X + 1, 0, none⟩) := h0
                      refine op_run rfl rfl (v := .pointer (some ⟨X + 1, 1, none⟩)) (w' := w1) ?_ rfl (Below.refl _ _)
                      simp [execOp, Act.eval, h0, go_sem]
                  · intro hne lo hi ph hran hp1 hp2 a w1 hJ hsz hs      -- 11: slot 104
                    obtain ⟨rfl, rfl⟩ : 0 = lo ∧ 1 = hi := Prod.mk.inj (Option.some.inj hran)
                    rcases (by omega : ph = 0 ∨ ph = 1) with rfl | rfl
                    · obtain ⟨h0, _⟩ := hs
                      have h0 : a.tmps.getD 103 undef = .pointer (some ⟨X + 1, 1, none⟩) := h0
                      have k0 : w1.cell? ⟨X + 1, 1, none⟩ = some (.slice (some ⟨b4, f4, none⟩) ms c4) := (HX3A.out.later (show Below wa.heap.size wa w1 from hJ.1)).c2.2
                      refine op_run rfl rfl (v := .slice (some ⟨b4, f4, none⟩) ms c4) (w' := w1) ?_ rfl (Below.refl _ _)
                      simp [execOp, Act.eval, h0, k0, go_sem]
                    · obtain ⟨h0, _⟩ := hs
                      have h0 : a.tmps.getD 103 undef = .pointer (some ⟨X + 1, 1, none⟩) := h0
                      have k0 : w1.cell? ⟨X + 1, 1, none⟩ = some (.slice (some ⟨b4, f4, none⟩) ms c4) := (HX3A.out.later (show Below wa.heap.size wa w1 from hJ.1)).c2.2
                      refine op_run rfl rfl (v := .slice (some ⟨b4, f4, none⟩) ms c4) (w' := w1) ?_ rfl (Below.refl _ _)
                      simp [execOp, Act.eval, h0, k0, go_sem]
                  · intro hne lo hi ph hran hp1 hp2 a w1 hJ hsz hs      -- 12: slot 105
                    obtain ⟨rfl, rfl⟩ : 0 = lo ∧ 1 = hi := Prod.mk.inj (Option.some.inj hran)
                    rcases (by omega : ph = 0 ∨ ph = 1) with rfl | rfl
                    · obtain ⟨h0, _⟩ := hs
                      have h0 : a.tmps.getD 9 undef = .int .i64 (I : Nat) := h0
                      refine op_run rfl rfl (v := .int .i64 (I : Nat)) (w' := w1) ?_ rfl (Below.refl _ _)
                      simp [execOp, Act.eval, h0, go_sem]
                    · obtain ⟨h0, _⟩ := hs
                      have h0 : a.tmps.getD 9 undef = .int .i64 (I : Nat) := h0
                      refine op_run rfl rfl (v := .int .i64 (I : Nat)) (w' := w1) ?_ rfl (Below.refl _ _)
                      simp [execOp, Act.eval, h0, go_sem]
                  · intro hne lo hi ph hran hp1 hp2 a w1 hJ hsz hs      -- 13: slot 106
                    obtain ⟨rfl, rfl⟩ : 0 = lo ∧ 1 = hi := Prod.mk.inj (Option.some.inj hran)
                    rcases (by omega : ph = 0 ∨ ph = 1) with rfl | rfl
                    · obtain ⟨h0, h1, _⟩ := hs
                      have h0 : a.tmps.getD 104 undef = .slice (some ⟨b4, f4, none⟩) ms c4 := h0
                      have h1 : a.tmps.getD 105 undef = .int .i64 (I : Nat) := h1
                      have k1 := HIM.out
                      refine op_run rfl rfl (v := .pointer (some ⟨b4, f4 + I * 2, none⟩)) (w' := w1) ?_ rfl (Below.refl _ _)
                      simp [execOp, Act.eval, h0, h1, k1, go_sem]
                    · obtain ⟨h0, h1, _⟩ := hs
                      have h0 : a.tmps.getD 104 undef = .slice (some ⟨b4, f4, none⟩) ms c4 := h0
                      have h1 : a.tmps.getD 105 undef = .int .i64 (I : Nat) := h1
                      have k1 := HIM.out
                      refine op_run rfl rfl (v := .pointer (some ⟨b4, f4 + I * 2, none⟩)) (w' := w1) ?_ rfl (Below.refl _ _)
                      simp [execOp, Act.eval, h0, h1, k1, go_sem]
                  · intro hne lo hi ph hran hp1 hp2 a w1 hJ hsz hs      -- 14: slot 107
                    obtain ⟨rfl, rfl⟩ : 0 = lo ∧ 1 = hi := Prod.mk.inj (Option.some.inj hran)
                    rcases (by omega : ph = 0 ∨ ph = 1) with rfl | rfl
                    · obtain ⟨h0, _⟩ := hs
                      have h0 : a.tmps.getD 106 undef = .pointer (some ⟨b4, f4 + I * 2, none⟩) := h0
                      refine op_run rfl rfl (v := .pointer (some ⟨b4, f4 + I * 2, none⟩)) (w' := w1) ?_ rfl (Below.refl _ _)
                      simp [execOp, Act.eval, h0, go_sem]
                    · obtain ⟨h0, _⟩ := hs
                      have h0 : a.tmps.getD 106 undef = .pointer (some ⟨b4, f4 + I * 2, none⟩) := h0
                      refine op_run rfl rfl (v := .pointer (some ⟨b4, f4 + I * 2, none⟩)) (w' := w1) ?_ rfl (Below.refl _ _)
                      simp [execOp, Act.eval, h0, go_sem]
                  · intro hne lo hi ph hran hp1 hp2 a w1 hJ hsz hs      -- 15: slot 108
                    obtain ⟨rfl, rfl⟩ : 0 = lo ∧ 1 = hi := Prod.mk.inj (Option.some.inj hran)
                    rcases (by omega : ph = 0 ∨ ph = 1) with rfl | rfl
                    · obtain ⟨h0, _⟩ := hs
                      have h0 : a.tmps.getD 107 undef = .pointer (some ⟨b4, f4 + I * 2, none⟩) := h0
                      have k1 := HP0.out w1 (show Below wa.heap.size wa w1 from hJ.1)
                      refine op_run rfl rfl (v := .string N1) (w' := w1) ?_ rfl (Below.refl _ _)
                      simp [execOp, Act.eval, h0, k1, go_sem]
                    · obtain ⟨h0, _⟩ := hs
                      have h0 : a.tmps.getD 107 undef = .pointer (some ⟨b4, f4 + I * 2, none⟩) := h0
                      have k1 := HP0.out w1 (show Below wa.heap.size wa w1 from hJ.1)
                      refine op_run rfl rfl (v := .string N1) (w' := w1) ?_ rfl (Below.refl _ _)
                      simp [execOp, Act.eval, h0, k1, go_sem]
                  · intro hne lo hi ph hran hp1 hp2 a w1 hJ hsz hs      -- 16: slot 109
                    obtain ⟨rfl, rfl⟩ : 0 = lo ∧ 1 = hi := Prod.mk.inj (Option.some.inj hran)
                    rcases (by omega : ph = 0 ∨ ph = 1) with rfl | rfl
                    · obtain ⟨h0, _⟩ := hs
                      have h0 : a.tmps.getD 108 undef = .string N1 := h0
                      have g0 : a.tmps[108]?.getD undef = .string N1 := (Array.getD_eq_getD_getElem? ..).symm.trans h0
                      refine op_run rfl rfl (v := .agg #[.int .i64 5, .int .i64 0, .int .i64 0, .slice none 0 0, .string N1]) (w' := w1) ?_ rfl (Below.refl _ _)
                      simp [execOp, Act.eval, g0, ue1, go_sem]
                    · obtain ⟨h0, _⟩ := hs
                      have h0 : a.tmps.getD 108 undef = .string N1 := h0
                      have g0 : a.tmps[108]?.getD undef = .string N1 := (Array.getD_eq_getD_getElem? ..).symm.trans h0
                      refine op_run rfl rfl (v := .agg #[.int .i64 5, .int .i64 0, .int .i64 0, .slice none 0 0, .string N1]) (w' := w1) ?_ rfl (Below.refl _ _)
                      simp [execOp, Act.eval, g0, ue1, go_sem]
                  · intro hne lo hi ph hran hp1 hp2 a w1 hJ hsz hs      -- 17: slot 110
                    obtain ⟨rfl, rfl⟩ : 0 = lo ∧ 1 = hi := Prod.mk.inj (Option.some.inj hran)
                    rcases (by omega : ph = 0 ∨ ph = 1) with rfl | rfl
                    · obtain ⟨h0, _⟩ := hs
                      have h0 : a.tmps.getD 109 undef = .agg #[.int .i64 5, .int .i64 0, .int .i64 0, .slice none 0 0, .string N1] := h0
                      have g0 : a.tmps[109]?.getD undef = .agg #[.int .i64 5, .int .i64 0, .int .i64 0, .slice none 0 0, .string N1] := (Array.getD_eq_getD_getElem? ..).symm.trans h0
                      refine op_run rfl rfl (v := .slice (some ⟨w1.heap.size, 0, none⟩) 1 1) (w' := w1.alloc (.cells #[.int .i64 5, .int .i64 0, .int .i64 0, .slice none 0 0, .string N1] 46)) ?_ ⟨w1.heap.size, rfl, RecAt.new w1 _ _, (by first | exact (show Below wx.heap.size wx w1 from hJ.2).size | exact (show wx.heap.size ≤ w1.heap.size from hJ.2))⟩ ((Below.refl _ _).alloc (Nat.le_refl _) _)
                      simp [execOp, Act.eval, h0, g0, go_sem, uq0, ue1]
                    · obtain ⟨h0, _⟩ := hs
                      have h0 : a.tmps.getD 109 undef = .agg #[.int .i64 5, .int .i64 0, .int .i64 0, .slice none 0 0, .string N1] := h0
                      have g0 : a.tmps[109]?.getD undef = .agg #[.int .i64 5, .int .i64 0, .int .i64 0, .slice none 0 0, .string N1] := (Array.getD_eq_getD_getElem? ..).symm.trans h0
                      refine op_run rfl rfl (v := .slice (some ⟨w1.heap.size, 0, none⟩) 1 1) (w' := w1.alloc (.cells #[.int .i64 5, .int .i64 0, .int .i64 0, .slice none 0 0, .string N1] 46)) ?_ ⟨w1.heap.size, rfl, RecAt.new w1 _ _, (by first | exact (show Below wx.heap.size wx w1 from hJ.2).size | exact (show wx.heap.size ≤ w1.heap.size from hJ.2))⟩ ((Below.refl _ _).alloc (Nat.le_refl _) _)
                      simp [execOp, Act.eval, h0, g0, go_sem, uq0, ue1]
                  · intro hne lo hi ph hran hp1 hp2 a w1 hJ hsz hs      -- 18: slot 111
                    exact absurd (by decide) hne
                  · intro hne lo hi ph hran hp1 hp2 a w1 hJ hsz hs      -- 19: slot 5
                    obtain ⟨rfl, rfl⟩ : 2 = lo ∧ 2 = hi := Prod.mk.inj (Option.some.inj hran)
                    obtain rfl : ph = 2 := by omega
                    obtain ⟨h0, _⟩ := hs
                    have m0 : (wvV (newB w) wa (T ++ BB ++ [snE o])).p w1 (a.tmps.getD 111 undef) := h0
                    obtain ⟨z, hz⟩ : ∃ z, a.tmps.getD 111 undef = z := ⟨_, rfl⟩
                    have m9 : OEv (newB w) wa w1 z (T ++ BB ++ [snE o]) := by rw [← hz]; exact m0
                    refine op_run rfl rfl (v := z) (w' := w1) ?_ m9 (Below.refl _ _)
                    simp [execOp, Act.eval, hz, go_sem]
                · show ∀ ph, ph < 2 → _
                  iterate 2 (refine fls ?_ ?_)
                  · exact fl0
                  · intro i hi a w1 hJ hsz hs      -- heavy 0: op 9 slot 102
                    obtain rfl : 9 = i := Option.some.inj hi
                    obtain ⟨h0, h1, _⟩ := hs
                    have h0 : a.tmps.getD 93 undef = u5 := h0
                    have m1 : (wvV (newB wx) wx BB).p w1 (a.tmps.getD 101 undef) := h1
                    have q0 : OEv (newB w) wa w1 u5 T := HO.out.later ev_rel (show Below wx.heap.size wx w1 from hJ.2)
                    have hb : OEv (newB wx) wx w1 (a.tmps.getD 101 undef) BB := m1
                    obtain ⟨v1, hv1⟩ : ∃ z, a.tmps.getD 101 undef = z := ⟨_, rfl⟩
                    rw [hv1] at hb
                    obtain ⟨a9, c9, he9⟩ := hb.val evT_ok HBL.out
                    subst he9
                    refine hv_nons evT_ok ev_rel rfl rfl (.tmp 93) (.tmp 101) rfl u5 T h0 wa q0 BB a9 BL c9 hv1 ((hb.row evT_ok ev_rel (fun b h => h)).q.weak ev_rel fun b _ hh => ⟨Nat.le_trans HWX.out hh, HOB.out b hh⟩) HLN.out ?_
                    intro v' w' o1 g1
                    exact ⟨o1, ⟨o1.below, Nat.le_trans ((show Below wx.heap.size wx w1 from hJ.2)).size g1.size⟩, (Calm5.all (n := 0) ⟨.inr fun _ h => h, .inr fun _ h => h, .inr fun _ h => h, .inr fun _ h => h, .inr fun _ h => h, .inr fun _ h => h, .inr fun _ h => h, .inr fun _ h => h, .inr fun _ _ => trivial, .inl rfl, .inr fun _ h => h, .inr fun _ h => h, .inr fun _ h => h, .inr fun _ h => h, .inr fun _ h => h, .inr fun _ h => h, .inr fun _ h => h, .inr fun _ h => snV_grown h g1 HOB.out, .inr fun _ h => h.elim, .inr fun _ h => h.elim, trivial⟩)⟩
                  · intro i hi a w1 hJ hsz hs      -- heavy 1: op 18 slot 111
                    obtain rfl : 18 = i := Option.some.inj hi
                    obtain ⟨h0, h1, _⟩ := hs
                    have m0 : (wvV (newB w) wa (T ++ BB)).p w1 (a.tmps.getD 102 undef) := h0
                    have m1 : (snV wx N1).p w1 (a.tmps.getD 110 undef) := h1
                    have m0' : OEv (newB w) wa w1 (a.tmps.getD 102 undef) (T ++ BB) := m0
                    obtain ⟨g, e110, hx, hxs⟩ := (show ∃ g, a.tmps.getD 110 undef = .slice (some ⟨g, 0, none⟩) 1 1 ∧ RecAt w1 g #[.int .i64 5, .int .i64 0, .int .i64 0, .slice none 0 0, .string N1] 46 ∧ wx.heap.size ≤ g from m1)
                    obtain ⟨u, hu⟩ : ∃ z, a.tmps.getD 102 undef = z := ⟨_, rfl⟩
                    rw [hu] at m0'
                    refine hv_non evT_ok ev_rel rfl rfl (.tmp 102) (.tmp 110) rfl u (T ++ BB) hu wa m0' g _ hx rfl (by intro u hu; simp only [List.mem_cons, List.not_mem_nil, or_false] at hu; rcases hu with rfl | rfl | rfl | rfl | rfl <;> rfl) (snE o) ⟨_, N1, rfl, HN1.out.1, HN1.out.2, BQ.nil _ _⟩ e110 HLN2.out ?_
                    intro v' w' o1 g1
                    exact ⟨o1, ⟨o1.below, Nat.le_trans (show wx.heap.size ≤ w1.heap.size from hJ.2) g1.size⟩, (Calm5.all (n := 0) ⟨.inr fun _ h => h, .inr fun _ h => h, .inr fun _ h => h, .inr fun _ h => h, .inr fun _ h => h, .inr fun _ h => h, .inr fun _ h => h, .inr fun _ h => h, .inr fun _ _ => trivial, .inr fun _ _ => trivial, .inr fun _ h => h, .inr fun _ h => h, .inr fun _ h => h, .inr fun _ h => h, .inr fun _ h => h, .inr fun _ h => h, .inr fun _ h => h, .inr fun _ _ => trivial, .inl rfl, .inr fun _ h => h.elim, trivial⟩)⟩
                intro f w1 hJ hv
                have e5 : (wvV (newB w) wa (T ++ BB ++ [snE o])).p w1 (f 5) := hv 19 _ 5 rfl rfl
                clear hv
                try simp only [Exit.then]
                simp only [putAll, List.foldl_cons, List.foldl_nil, Option.getD_some, Act.put, List.setIfInBounds_toArray, List.set_cons_succ, List.set_cons_zero]
                -- END W15
                obtain ⟨v5, hv5⟩ : ∃ z, f 5 = z := ⟨_, rfl⟩
                rw [hv5] at e5 ⊢
                have HO9 : Hid (OEv (newB w) wa w1 v5 (T ++ BB ++ [snE o])) := Lib.hid e5
                clear hJ e5 hv5
                have k9 := HP1.out w1 HO9.out.below
                have hIM := HIM.out
                obtain ⟨y0, y1⟩ := (HX3A.out.later HO9.out.below).c2
                go_wp2_with fail
                go_roundw
                case rel => exact ⟨I + 1, T ++ BB ++ [snE o], o.data, e4, L4, k4, by go_num, rfl, HL5.out, by omega, by omega, HTL9.out, HL4, HO9, HR4, HW9, HL9⟩
                case measure => simp [intOf]; omega
              · have hId : decide ((I : Int) < (ms : Int)) = false := decide_eq_false hIm
                have hIe : I = ms := by omega
                have HD0 : Hid (t.snaps.drop I = []) := Lib.hid (List.drop_eq_nil_of_le (by rw [HMS.out]; omega))
                have HWE : Hid (T = WS) := Lib.hid (by have := HW8.out; rw [HD0.out] at this; simpa [snapsD] using this)
                have HLE : Hid (now = LS) := Lib.hid (by have := HL8.out; rw [HD0.out] at this; simpa [lastD] using this)
                clear hIe HD0 HW8 HL8
                have hmd5 : md ≤ 100000 := by have := HT.out.size; rw [HMD.out] at this; omega
                have hTL2 : T.length ≤ 10000 := by omega
                go_wp2_with fail
                refine (rbytes15_any a8 a3 n8 md c8 c3 now t.data wx (HR8.out.later HO.out.below) (HTD.out.later HBV.out) HN8.out HMD.out hn8 hmd5).mono ?_
                rintro e w8 ⟨v8, rfl, o8⟩
                obtain ⟨BB, hBB⟩ : ∃ l, bytesD now t.data = l := ⟨_, rfl⟩
                obtain ⟨BL, hBL⟩ : ∃ l, BB.length = l := ⟨_, rfl⟩
                have hBL2 : BL ≤ 514 := by rw [← hBL, ← hBB]; exact bytesD_len _ _
                rw [hBB] at o8
                obtain ⟨a9, c9, hv9⟩ := o8.val evT_ok hBL
                subst hv9
                have HQ := Lib.hid (o8.row evT_ok ev_rel (fun b h => h)).q
                have HO8 := Lib.hid (HO.out.later ev_rel o8.below)
                have HWR2 : Hid (WD = T ++ BB) := Lib.hid (by rw [HWR.out, HWE.out, ← HLE.out, hBB])
                have HOS := Lib.hid HO.out.below.size
                have HOB : Hid (∀ b, wx.heap.size ≤ b → some b ≠ u5.ownBlock) := Lib.hid fun b h e => by have := (HO.out.ltB e.symm).2; omega
                have HQ2 := Lib.hid (HQ.out.weak ev_rel (J' := lessJ (newB w) u5) fun b _ hb => ⟨Nat.le_trans HWA.out.size (Nat.le_trans HOS.out hb), HOB.out b hb⟩)
                have hBT : T.length + BB.length ≤ 1000000 := by rw [hBL]; omega
                clear o8 hBB hBL HQ HOB HOS
                go_wp2_with (at_builtin; refine wp_qons evT_ok ev_rel rfl (.tmp 118) (.tmp 122) rfl _ T rfl wa HO8.out BB a9 BL c9 rfl HQ2.out hBT ?_; intro v9 w9 o9 g9)
                go_ret
                exact ⟨_, rfl, by rw [HWR2.out]; exact o9.back HWA.out⟩
end Go.Proofs.Ytbpddcmehjgleaa
