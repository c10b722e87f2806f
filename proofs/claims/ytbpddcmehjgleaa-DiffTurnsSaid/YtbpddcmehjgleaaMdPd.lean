/- Images: the program's own Read, Right. -/
import Derived.Test.YtbpddcmehjgleaaGMa
import Derived.Test.YtbpddcmehjgleaaGMc
import Derived.Test.YtbpddcmehjgleaaGMd
import Derived.Test.YtbpddcmehjgleaaGMb
namespace Go.Proofs.Ytbpddcmehjgleaa
open Go.RowKit Go.Proofs
set_option linter.unusedVariables false
set_option linter.unusedSimpArgs false
set_option linter.unnecessarySimpa false

/-! ### Right -/
theorem rightM_no1 {s : Sx} {o : Od} {k : Nat} (h : s.snaps[k]? = some o) (hb : nameOk o.name = false ∨ 512 < o.data.length) : ¬ StOk s := fun c => by
  rcases hb with hb | hb
  · rw [c.names o (List.mem_of_getElem? h)] at hb; cases hb
  · have := c.sizes o (List.mem_of_getElem? h); omega
theorem rightM_yes {s : Sx} (h1 : s.data.length ≤ 512) (h2 : s.snaps.length ≤ 8) (h3 : ∀ (k : Nat) o, s.snaps[k]? = some o → nameOk o.name = true ∧ o.data.length ≤ 512) : StOk s ↔ ApartO s.snaps := by
  refine ⟨fun c => c.apart, fun c => ⟨h1, h2, fun o ho => ?_, fun o ho => ?_, c⟩⟩
  · obtain ⟨k, hk⟩ := List.mem_iff_getElem?.1 ho; exact (h3 k o hk).1
  · obtain ⟨k, hk⟩ := List.mem_iff_getElem?.1 ho; exact (h3 k o hk).2
def mpK (l : List Od) (n : Nat) : SV := ⟨fun w x => ∃ b k, x = .map (some b) ∧ SMap w b (placeV l) k ∧ (k = n ↔ ApartO l), fun w w' x ⟨b, k, h1, h2, h3⟩ hb => ⟨b, k, h1, h2.later hb, h3⟩⟩
def leV (l : List Od) (n : Nat) : SV := ⟨fun w x => ∃ k : Nat, x = .int .i64 ((k : Nat) : Int) ∧ (k = n ↔ ApartO l), fun w w' x h hb => h⟩
def apB (l : List Od) : SV := ⟨fun w x => ∃ B : Bool, x = .bool B ∧ (B = true ↔ ApartO l), fun w w' x h hb => h⟩
set_option maxRecDepth 20000 in
set_option maxHeartbeats 6400000 in
theorem pright14_any (d v : Value) (s : Sx) (J : Nat → Prop) (w : World) (h : StA J w d v s) (hM : MayS s) :
    Calls Try.prog 34 #[.agg #[d, v]] w fun e w' => RightIs w s e w' := by
  obtain ⟨a1, c1, a2, c2, rfl, rfl, rd, rs⟩ := h.open
  have X2 := RecAt.new w #[.slice a1 s.data.length c1, .slice a2 s.snaps.length c2] 32
  have B2 : Below w.heap.size w (w.alloc (.cells #[.slice a1 s.data.length c1, .slice a2 s.snaps.length c2] 32)) := (Below.refl _ _).alloc (Nat.le_refl _) _
  obtain ⟨w1, hw1⟩ : ∃ W, w.alloc (.cells #[.slice a1 s.data.length c1, .slice a2 s.snaps.length c2] 32) = W := ⟨_, rfl⟩
  rw [hw1] at X2 B2
  obtain ⟨nd, hnd⟩ : ∃ z, s.data.length = z := ⟨_, rfl⟩
  obtain ⟨ns, hns⟩ : ∃ z, s.snaps.length = z := ⟨_, rfl⟩
  rw [hnd] at X2 hw1 ⊢
  rw [hns] at X2 hw1 rs ⊢
  have HX2 := Lib.hid X2
  have HB3 := Lib.hid B2
  have HRS := Lib.hid (rs.later od_rel B2)
  have HND := Lib.hid hnd
  have HNS := Lib.hid hns
  obtain ⟨hl1, hl2⟩ := rs.lim
  clear X2 B2 rd rs h hnd hns
  go_enter Try.func34, Try.ntmps34
  go_upto_region 1 with fail
  try rw [hw1]
  clear hw1
  obtain ⟨X, hX⟩ : ∃ X, w.heap.size = X := ⟨_, rfl⟩
  rw [hX] at HX2 ⊢
  have HXS := Lib.hid hX
  clear hX
  obtain ⟨x0, x1⟩ := HX2.out.c2
  by_cases h5 : 512 < nd
  · have hd5 : decide ((nd : Int) > 512) = true := decide_eq_true (by omega)
    have HNO : Hid (¬ StOk s) := Lib.hid fun c => by have := c.size; have := HND.out; omega
    go_wp2_with fail
    go_ret
    exact ⟨_, rfl, ⟨fun c => absurd c (by decide), fun c => absurd c HNO.out⟩, HB3.out⟩
  have hd5 : decide ((nd : Int) > 512) = false := decide_eq_false (by omega)
  by_cases h8 : 8 < ns
  · have hd8 : decide ((ns : Int) > 8) = true := decide_eq_true (by omega)
    have HNO : Hid (¬ StOk s) := Lib.hid fun c => by have := c.many; have := HNS.out; omega
    go_wp2_with fail
    go_ret
    exact ⟨_, rfl, ⟨fun c => absurd c (by decide), fun c => absurd c HNO.out⟩, HB3.out⟩
  have hd8 : decide ((ns : Int) > 8) = false := decide_eq_false (by omega)
  go_wp2_with fail
  clear x0 x1 hd5 hd8
  go_loopw [18] (fun i wr => ∃ j : Nat, i = .int .i64 j ∧ j ≤ ns ∧ Below w1.heap.size w1 wr ∧ Hid (∀ k, k < j → ∀ o, s.snaps[k]? = some o → nameOk o.name = true ∧ o.data.length ≤ 512)) (fun i _ => ns - (intOf i).toNat)
  case atStart => exact ⟨0, rfl, by omega, Below.refl _ _, Lib.hid (fun k h => by omega)⟩
  case round =>
    obtain ⟨j, rfl, hj, hb, HA⟩ := hrel
    have HBR := Lib.hid hb
    clear hb
    by_cases hjn : (j : Int) < ns
    · have hjn2 : j < ns := by omega
      obtain ⟨e, he⟩ : ∃ e, s.snaps[j]? = some e := ⟨s.snaps[j]'(by have := HNS.out; omega), List.getElem?_eq_getElem _⟩
      obtain ⟨b1, f1, N1, e1, k1, rfl, p0, p1, hN1, hN2, hrw⟩ := (HRS.out.later od_rel HBR.out).o2 he
      have hlc := hrw.lim rfl
      have HNA := Lib.hid (fun W => name_any N1 W hN2)
      rw [hN1] at HNA
      have HNO : Hid (nameOk e.name = false ∨ 512 < e.data.length → ¬ StOk s) := Lib.hid fun h => rightM_no1 he h
      have HMO : Hid (nameOk e.name = true → e.data.length ≤ 512 → ∀ k, k < j + 1 → ∀ o, s.snaps[k]? = some o → nameOk o.name = true ∧ o.data.length ≤ 512) := Lib.hid fun h h2 k hk o ho => by
        by_cases c : k = j
        · subst c; rw [he] at ho; cases ho; exact ⟨h, h2⟩
        · exact HA.out k (by omega) o ho
      obtain ⟨L1, hL1⟩ : ∃ z, e.data.length = z := ⟨_, rfl⟩
      obtain ⟨B, hB⟩ : ∃ B, nameOk e.name = B := ⟨_, rfl⟩
      rw [hL1] at HNO HMO p1 hlc
      rw [hB] at HNA HNO HMO
      have HB4 := Lib.hid (HBR.out.trans ((below_rec wr #[.string N1, .slice e1 L1 k1] 38).mono HBR.out.size))
      clear he hL1 hB hrw hN1
      go_wp2_with fail
      refine (HNA.out _).mono ?_
      rintro e3 w3 ⟨rfl, rfl⟩
      cases B with
      | false =>
        have HN := Lib.hid (HNO.out (.inl rfl))
        go_wp2_with fail
        go_ret
        exact ⟨_, rfl, ⟨fun c => absurd c (by decide), fun c => absurd c HN.out⟩, HB3.out.trans (HB4.out.mono HB3.out.size)⟩
      | true =>
        by_cases hL : 512 < L1
        · have hdL : decide ((L1 : Int) > 512) = true := decide_eq_true (by omega)
          have HN := Lib.hid (HNO.out (.inr hL))
          go_wp2_with fail
          go_ret
          exact ⟨_, rfl, ⟨fun c => absurd c (by decide), fun c => absurd c HN.out⟩, HB3.out.trans (HB4.out.mono HB3.out.size)⟩
        · have hdL : decide ((L1 : Int) > 512) = false := decide_eq_false (by omega)
          have HA2 := Lib.hid (HMO.out rfl (by omega))
          go_wp2_with fail
          go_roundw
          case rel => exact ⟨j + 1, by go_num, by omega, HB4.out, HA2⟩
          case measure => simp [intOf]; omega
    · have hjN : j = ns := by omega
      have HALL : Hid (StOk s ↔ ApartO s.snaps) := Lib.hid (rightM_yes (by have := HND.out; omega) (by have := HNS.out; omega) fun k o ho => HA.out k (by have := (List.getElem?_eq_some_iff.1 ho).1; rw [HNS.out] at this; omega) o ho)
      clear hjN HA
      obtain ⟨SN, hSN⟩ : ∃ z, s.snaps = z := ⟨_, rfl⟩
      rw [hSN] at HALL HRS
      have HPL := Lib.hid (fun W (hb : Below wr.heap.size wr W) => places_any a2 ns c2 SN J W ((HRS.out.later od_rel HBR.out).later od_rel hb) (by omega))
      have HX22 := Lib.hid (HX2.out.later HBR.out)
      have HSL : Hid (SN.length = ns) := Lib.hid (by rw [← hSN]; exact HNS.out)
      clear hSN
      go_upto_region 9 with fail
      -- REG R9
      refine wp_region_tab (L := [cV (.pointer (some ⟨X, 1, none⟩)), cV (.slice a2 ns c2), mpK SN ns, leV SN ns, cV (.pointer (some ⟨X, 1, none⟩)), cV (.slice a2 ns c2), cV (.int .i64 (ns : Nat)), apB SN, apB SN]) [[(1, none)], [(33, some 0)], [(34, some 1)], [(35, some 2)], [(1, none)], [(37, some 4)], [(38, some 5)], [(36, some 3), (39, some 6)], [(40, some 7)]] 9 41 (by kernel_rfl) rfl rfl (by kernel_rfl) (by kernel_rfl) ?_ ?_
      · show ∀ i, i < 9 → _
        iterate 9 (refine fls ?_ ?_)
        · exact fl0
        · intro a w1 hR hsz hs      -- 0: slot 33
          obtain ⟨h0, _⟩ := hs
          have h0 : a.tmps.getD 1 undef = .pointer (some ⟨X, 0, none⟩) := h0
          refine op_run rfl rfl (v := .pointer (some ⟨X, 1, none⟩)) (w' := w1) ?_ rfl (Below.refl _ _)
          simp [execOp, Act.eval, h0, go_sem]
        · intro a w1 hR hsz hs      -- 1: slot 34
          obtain ⟨h0, _⟩ := hs
          have h0 : a.tmps.getD 33 undef = .pointer (some ⟨X, 1, none⟩) := h0
          obtain ⟨x0, x1⟩ := (HX22.out.later hR).c2
          refine op_run rfl rfl (v := .slice a2 ns c2) (w' := w1) ?_ rfl (Below.refl _ _)
          simp [execOp, Act.eval, h0, x1, go_sem]
        · intro a w1 hR hsz hs      -- 2: slot 35
          obtain ⟨h0, _⟩ := hs
          have h0 : a.tmps.getD 34 undef = .slice a2 ns c2 := h0
          refine op_call rfl rfl (f := 53) (args := #[.slice a2 ns c2]) (by simp [execOp, Act.eval, resolve, h0, go_sem]) ?_
          exact (HPL.out w1 hR).mono fun e w' ⟨k, h1, h2, h3, h4⟩ => ⟨_, h1, ⟨_, k, rfl, h2, by rw [← HSL.out]; exact h4⟩, h3⟩
        · intro a w1 hR hsz hs      -- 3: slot 36
          obtain ⟨h0, _⟩ := hs
          have m0 : (mpK SN ns).p w1 (a.tmps.getD 35 undef) := h0
          obtain ⟨bm, km, em, hm, hk⟩ := (show ∃ b k, a.tmps.getD 35 undef = .map (some b) ∧ SMap w1 b (placeV SN) k ∧ (k = ns ↔ ApartO SN) from m0)
          have hlen := fun ty => hm.len Try.underlying69 ty
          refine op_run rfl rfl (v := .int .i64 ((km : Nat) : Int)) (w' := w1) ?_ ⟨km, rfl, hk⟩ (Below.refl _ _)
          simp [execOp, Act.eval, em, hlen, go_sem]
        · intro a w1 hR hsz hs      -- 4: slot 37
          obtain ⟨h0, _⟩ := hs
          have h0 : a.tmps.getD 1 undef = .pointer (some ⟨X, 0, none⟩) := h0
          refine op_run rfl rfl (v := .pointer (some ⟨X, 1, none⟩)) (w' := w1) ?_ rfl (Below.refl _ _)
          simp [execOp, Act.eval, h0, go_sem]
        · intro a w1 hR hsz hs      -- 5: slot 38
          obtain ⟨h0, _⟩ := hs
          have h0 : a.tmps.getD 37 undef = .pointer (some ⟨X, 1, none⟩) := h0
          obtain ⟨x0, x1⟩ := (HX22.out.later hR).c2
          refine op_run rfl rfl (v := .slice a2 ns c2) (w' := w1) ?_ rfl (Below.refl _ _)
          simp [execOp, Act.eval, h0, x1, go_sem]
        · intro a w1 hR hsz hs      -- 6: slot 39
          obtain ⟨h0, _⟩ := hs
          have h0 : a.tmps.getD 38 undef = .slice a2 ns c2 := h0
          refine op_run rfl rfl (v := .int .i64 (ns : Nat)) (w' := w1) ?_ rfl (Below.refl _ _)
          simp [execOp, Act.eval, h0, go_sem]
        · intro a w1 hR hsz hs      -- 7: slot 40
          obtain ⟨h0, h1, _⟩ := hs
          have m0 : (leV SN ns).p w1 (a.tmps.getD 36 undef) := h0
          have h1 : a.tmps.getD 39 undef = .int .i64 (ns : Nat) := h1
          obtain ⟨km, em, hk⟩ := (show ∃ k : Nat, a.tmps.getD 36 undef = .int .i64 ((k : Nat) : Int) ∧ (k = ns ↔ ApartO SN) from m0)
          refine op_run rfl rfl (v := .bool (decide (((km : Nat) : Int) = ((ns : Nat) : Int)))) (w' := w1) ?_ ⟨_, rfl, by rw [decide_eq_true_eq, ← hk]; omega⟩ (Below.refl _ _)
          simp [execOp, Act.eval, em, h1, go_sem]
          try (first | rfl | (rw [Bool.eq_iff_iff]; simp))
        · intro a w1 hR hsz hs      -- 8: slot 2
          obtain ⟨h0, _⟩ := hs
          have m0 : (apB SN).p w1 (a.tmps.getD 40 undef) := h0
          obtain ⟨B, em, hk⟩ := (show ∃ B : Bool, a.tmps.getD 40 undef = .bool B ∧ (B = true ↔ ApartO SN) from m0)
          refine op_run rfl rfl (v := .bool B) (w' := w1) ?_ ⟨B, rfl, hk⟩ (Below.refl _ _)
          simp [execOp, Act.eval, em, go_sem]
      intro f w1 hR hv
      obtain ⟨BQ2, e2, hq⟩ := (show ∃ B : Bool, f 2 = .bool B ∧ (B = true ↔ ApartO SN) from hv 8 _ 2 rfl rfl)
      clear hv
      try simp only [Exit.then]
      simp only [putAll, List.foldl_cons, List.foldl_nil, Option.getD_some, Act.put, List.setIfInBounds_toArray, List.set_cons_succ, List.set_cons_zero, e2]
      have HBQ := Lib.hid hq
      have HB9 := Lib.hid (HB3.out.trans ((HBR.out.trans (hR.mono HBR.out.size)).mono HB3.out.size))
      clear hR e2 hq
      -- END R9
      go_wp2_with fail
      go_ret
      exact ⟨_, rfl, HBQ.out.trans HALL.out.symm, HB9.out⟩
end Go.Proofs.Ytbpddcmehjgleaa
