/- Chains: the program's own Right. -/
import Derived.Test.YtiahifpbofkimaaGH
import Derived.Test.YtiahifpbofkimaaGC
import Derived.Deep.RegionWith
import Derived.Deep.DeepCutAuto
namespace Go.Proofs.Ytiahifpbofkimaa
open Go.RowKit Go.Proofs
set_option linter.unusedVariables false
set_option linter.unusedSimpArgs false

/-! ### step by step -/
def stepOk (ts : List Tg) (j : Nat) : Prop := ∀ t, ts[j]? = some t → okB t = true ∧ hasId (ts.take j) t.id = false ∧ ∀ u, 0 < j → ts[j - 1]? = some u → u.at' ≤ t.at'
theorem hasId_take {ts : List Tg} {j : Nat} {k : Int} : hasId (ts.take j) k = false ↔ ∀ (m : Nat) u, m < j → ts[m]? = some u → u.id ≠ k := by
  unfold hasId
  rw [List.any_eq_false]
  constructor
  · intro h m u hm hu
    have : u ∈ ts.take j := List.mem_of_getElem? (i := m) (by rw [List.getElem?_take, if_pos hm]; exact hu)
    simpa using h u this
  · intro h u hu
    obtain ⟨m, hm⟩ := List.mem_iff_getElem?.1 hu
    rw [List.getElem?_take] at hm
    split at hm
    · rename_i hlt
      simpa using h m u hlt hm
    · cases hm
theorem rightC_steps {ts : List Tg} : rightC ts = true ↔ (1 ≤ ts.length ∧ ts.length ≤ 32 ∧ (∀ t, ts[0]? = some t → t.at' = 0) ∧ ∀ j, j < ts.length → stepOk ts j) := by
  rw [rightC_iff]
  constructor
  · intro h
    refine ⟨h.1, h.2.1, h.2.2.1, fun j hj t ht => ⟨okB_iff.2 ⟨h.tag ht, h.pos ht⟩, hasId_take.2 fun m u hm hu => h.apart hm ht hu, fun u h0 hu => (h.2.2.2 j hj t ht).2.1 u h0 hu⟩⟩
  · intro ⟨h1, h2, h3, h4⟩
    refine ⟨h1, h2, h3, fun j hj t ht => ?_⟩
    obtain ⟨a, b, c⟩ := h4 j hj t ht
    exact ⟨(okB_iff.1 a).1, c, fun m u hm hu => hasId_take.1 b m u hm hu⟩
theorem rightC_false {ts : List Tg} (h : ¬ (1 ≤ ts.length ∧ ts.length ≤ 32 ∧ (∀ t, ts[0]? = some t → t.at' = 0) ∧ ∀ j, j < ts.length → stepOk ts j)) : rightC ts = false := by
  rw [← Bool.not_eq_true]; intro hx; exact h (rightC_steps.1 hx)
theorem rightC_bad {ts : List Tg} {j : Nat} {t : Tg} (ht : ts[j]? = some t) (h : ¬ (okB t = true ∧ hasId (ts.take j) t.id = false ∧ ∀ u, 0 < j → ts[j - 1]? = some u → u.at' ≤ t.at')) : rightC ts = false :=
  rightC_false fun hx => h (hx.2.2.2 j (List.getElem?_eq_some_iff.1 ht).1 t ht)
/-- 's[:hi]' of tags, below the end of what s may grow to. -/
theorem run_slT (W : World) (bk off n cap hi : Nat) (h2 : hi ≤ cap) (h3 : 0 < cap) :
    (Instr.slice 22 (.slice (some ⟨bk, off, none⟩) n cap) none (some (.int .i64 hi)) none).run Try.prog W = .ok (.slice (some ⟨bk, off, none⟩) hi cap) W := by
  simp [Instr.slice, Instr.sliceBounds, Instr.sliceBound, asIntOf, run_underlying Try.underlying22, Result.andThen, h2]
  simp [show ¬ cap = 0 by omega, Addr.add_lit]

set_option maxRecDepth 20000 in
set_option maxHeartbeats 3200000 in
theorem chright_any (ad : Option Addr) (n c : Nat) (ts : List Tg) (w : World) (hr : TRow w ad c ts) (hn : ts.length = n) :
    Calls Try.prog 42 #[.slice ad n c] w fun e w' => e = .returned (.bool (rightC ts)) ∧ Below w.heap.size w w' := by
  have HR := Lib.hid hr
  have HN := Lib.hid hn
  have hc1 := hr.1
  rw [hn] at hc1
  have hcm : c ≤ 9223372036854775807 := by have := hr.2.1; unfold maxLen at this; omega
  rcases (show n < 1 ∨ (1 ≤ n ∧ 32 < n) ∨ (1 ≤ n ∧ n ≤ 32) by omega) with h | h | h
  · have HF := Lib.hid (rightC_false (ts := ts) (by omega))
    clear hr hn
    have hd : decide ((n : Int) < 1) = true := by simp; omega
    go_enter Try.func42, Try.ntmps42
    go_wp2_with fail
    go_ret
    exact ⟨ret_bool HF.out.symm, Below.refl _ _⟩
  · have HF := Lib.hid (rightC_false (ts := ts) (by omega))
    clear hr hn
    have hd : decide ((n : Int) < 1) = false := by simp; omega
    have hd2 : decide (32 < (n : Int)) = true := by simp; omega
    go_enter Try.func42, Try.ntmps42
    go_wp2_with fail
    go_ret
    exact ⟨ret_bool HF.out.symm, Below.refl _ _⟩
  · obtain ⟨t0, ht0⟩ : ∃ t, ts[0]? = some t := ⟨ts[0]'(by omega), List.getElem?_eq_getElem _⟩
    obtain ⟨b0, o0, rfl, p0, p1, p2, p3⟩ := hr.at ht0
    have HT0 := Lib.hid ht0
    have hd : decide ((n : Int) < 1) = false := by simp; omega
    have hd2 : decide (32 < (n : Int)) = false := by simp; omega
    clear hr hn ht0
    rw [Nat.zero_mul, Nat.add_zero] at p0 p1 p2 p3
    by_cases hz : t0.at' = 0
    · have HZ := Lib.hid hz
      have hzb : (t0.at' == 0) = true := by simpa using hz
      clear hz
      go_enter Try.func42, Try.ntmps42
      go_wp2_with fail
      clear p0 p1 p2 p3 hzb hd hd2
      go_loopw [3, 4, 22] (fun _ _ i wr => ∃ j : Nat, i = .int .i64 j ∧ j ≤ n ∧ Below w.heap.size w wr ∧ Hid (∀ m, m < j → stepOk ts m)) (fun _ _ i _ => n - (intOf i).toNat)
      case atStart => exact ⟨0, rfl, by omega, Below.refl _ _, Lib.hid (fun m h => by omega)⟩
      case round =>
        obtain ⟨j, rfl, hj, hb, HA⟩ := hrel
        have HB := Lib.hid hb
        clear hb
        by_cases hjn : (j : Int) < n
        · obtain ⟨t, ht⟩ : ∃ t, ts[j]? = some t := ⟨ts[j]'(by have := HN.out; omega), List.getElem?_eq_getElem _⟩
          obtain ⟨b1, o1, e1, p0, p1, p2, p3⟩ := (HR.out.later HB.out).at ht
          cases e1
          have HT := Lib.hid ht
          have HTB := Lib.hid (HR.out.b ht)
          clear ht
          have HK := Lib.hid (fun W => rightTag_any t W HTB.out)
          have hba : Below wr.heap.size wr (wr.alloc (.cells #[.int .i64 t.id, .int .i64 t.owner, .int .i64 t.heir, .int .i64 t.at'] 85)) := (Below.refl _ _).alloc (Nat.le_refl _) _
          have HB2 := Lib.hid (HB.out.trans (hba.mono HB.out.size))
          have HX := Lib.hid (RecAt.new wr #[.int .i64 t.id, .int .i64 t.owner, .int .i64 t.heir, .int .i64 t.at'] 85)
          clear hba
          go_upto_region 6 with fail
          clear p0 p1 p2 p3
          generalize (wr.alloc (.cells #[.int .i64 t.id, .int .i64 t.owner, .int .i64 t.heir, .int .i64 t.at'] 85)) = w2 at *
          generalize wr.heap.size = p4 at *
          have HI := Lib.hid (fun (W : World) (h : Below w2.heap.size w2 W) => hasID_any (some ⟨b0, o0, none⟩) j c (ts.take j) t.id W (((HR.out.later HB2.out).later h).take j) (by rw [List.length_take]; have := HN.out; omega) (by omega))
          have HSL := Lib.hid (fun W => run_slT W b0 o0 n c j (by omega) (by omega))
          cases hk : okB t with
          | false =>
            have HF := Lib.hid (rightC_bad HT.out (fun hx => by rw [hk] at hx; exact Bool.noConfusion hx.1))
            rw [hk] at HK
            clear hk
            -- REG A
            refine wp_region_tab (L := [cV (.agg #[.int .i64 t.id, .int .i64 t.owner, .int .i64 t.heir, .int .i64 t.at']), cV (.bool false), cV (.bool true), cV (.bool true), cV (undef), cV (undef), cV (undef), cV (undef), cV (undef), cV (undef), cV (Value.bool true), cV (Value.bool true), cV (undef), cV (undef), cV (undef), cV (undef), cV (undef), cV (undef), cV (undef), cV (undef), cV (undef), cV (undef), cV (undef), cV (undef), cV (undef), cV (Value.bool true)]) [[(4, none)], [(27, some 0)], [(28, some 1)], [(29, some 2)], [(0, none), (30, some 3)], [(3, none), (30, some 3)], [(31, some 4), (32, some 5), (30, some 3)], [(4, none), (30, some 3)], [(34, some 7), (30, some 3)], [(33, some 6), (35, some 8), (30, some 3)], [(30, some 3), (36, some 9)], [(37, some 10)], [(3, none), (38, some 11)], [(39, some 12), (38, some 11)], [(40, some 13), (38, some 11)], [(4, none), (41, some 14)], [(42, some 15), (41, some 14)], [(0, none), (41, some 14)], [(3, none), (41, some 14)], [(45, some 18), (41, some 14)], [(44, some 17), (46, some 19), (41, some 14)], [(47, some 20), (41, some 14)], [(48, some 21), (41, some 14)], [(43, some 16), (49, some 22), (41, some 14)], [(41, some 14), (50, some 23), (38, some 11)], [(38, some 11), (51, some 24)]] 26 54 (by kernel_rfl) rfl rfl (by kernel_rfl) (by kernel_rfl) ?_ ?_
            · show ∀ i, i < 26 → _
              iterate 26 (refine fls ?_ ?_)
              · exact fl0
              · intro a w1 hR hsz hs      -- 0: slot 27
                obtain ⟨h0, _⟩ := hs
                have h0 : a.tmps.getD 4 undef = .pointer (some ⟨p4, 0, none⟩) := h0
                obtain ⟨k0, k1, k2, k3⟩ := (HX.out.later hR).c4
                refine op_run rfl rfl (v := .agg #[.int .i64 t.id, .int .i64 t.owner, .int .i64 t.heir, .int .i64 t.at']) (w' := w1) ?_ rfl (Below.refl _ _)
                simp [execOp, Act.eval, h0, k0, k1, k2, k3, go_sem]
              · intro a w1 hR hsz hs      -- 1: slot 28
                obtain ⟨h0, _⟩ := hs
                have h0 : a.tmps.getD 27 undef = .agg #[.int .i64 t.id, .int .i64 t.owner, .int .i64 t.heir, .int .i64 t.at'] := h0
                refine op_call rfl rfl (f := 77) (args := #[.agg #[.int .i64 t.id, .int .i64 t.owner, .int .i64 t.heir, .int .i64 t.at']]) (by simp [execOp, Act.eval, resolve, h0, go_sem]) ?_
                exact calls_c (HK.out w1)
              · intro a w1 hR hsz hs      -- 2: slot 29
                obtain ⟨h0, _⟩ := hs
                have h0 : a.tmps.getD 28 undef = .bool false := h0
                refine op_run rfl rfl (v := .bool true) (w' := w1) ?_ rfl (Below.refl _ _)
                simp [execOp, Act.eval, h0, go_sem]
              · intro a w1 hR hsz hs      -- 3: slot 30
                obtain ⟨h0, _⟩ := hs
                have h0 : a.tmps.getD 29 undef = .bool true := h0
                refine op_run rfl rfl (v := .bool true) (w' := w1) ?_ rfl (Below.refl _ _)
                simp [execOp, Act.eval, h0, go_sem]
              · intro a w1 hR hsz hs      -- 4: slot 31
                obtain ⟨h0, h1, _⟩ := hs
                have h0 : a.tmps.getD 0 undef = .slice (some ⟨b0, o0, none⟩) n c := h0
                have h1 : a.tmps.getD 30 undef = .bool true := h1
                exact opg_skip rfl rfl rfl (by rw [hsz]; decide) h1 rfl rfl
              · intro a w1 hR hsz hs      -- 5: slot 32
                obtain ⟨h0, h1, _⟩ := hs
                have h0 : a.tmps.getD 3 undef = .int .i64 (j : Nat) := h0
                have h1 : a.tmps.getD 30 undef = .bool true := h1
                exact opg_skip rfl rfl rfl (by rw [hsz]; decide) h1 rfl rfl
              · intro a w1 hR hsz hs      -- 6: slot 33
                obtain ⟨h0, h1, h2, _⟩ := hs
                have h0 : a.tmps.getD 31 undef = undef := h0
                have h1 : a.tmps.getD 32 undef = undef := h1
                have h2 : a.tmps.getD 30 undef = .bool true := h2
                exact opg_skip rfl rfl rfl (by rw [hsz]; decide) h2 rfl rfl
              · intro a w1 hR hsz hs      -- 7: slot 34
                obtain ⟨h0, h1, _⟩ := hs
                have h0 : a.tmps.getD 4 undef = .pointer (some ⟨p4, 0, none⟩) := h0
                have h1 : a.tmps.getD 30 undef = .bool true := h1
                exact opg_skip rfl rfl rfl (by rw [hsz]; decide) h1 rfl rfl
              · intro a w1 hR hsz hs      -- 8: slot 35
                obtain ⟨h0, h1, _⟩ := hs
                have h0 : a.tmps.getD 34 undef = undef := h0
                have h1 : a.tmps.getD 30 undef = .bool true := h1
                exact opg_skip rfl rfl rfl (by rw [hsz]; decide) h1 rfl rfl
              · intro a w1 hR hsz hs      -- 9: slot 36
                obtain ⟨h0, h1, h2, _⟩ := hs
                have h0 : a.tmps.getD 33 undef = undef := h0
                have h1 : a.tmps.getD 35 undef = undef := h1
                have h2 : a.tmps.getD 30 undef = .bool true := h2
                exact opg_skip rfl rfl rfl (by rw [hsz]; decide) h2 rfl rfl
              · intro a w1 hR hsz hs      -- 10: slot 37
                obtain ⟨h0, h1, _⟩ := hs
                have h0 : a.tmps.getD 30 undef = .bool true := h0
                have h1 : a.tmps.getD 36 undef = undef := h1
                refine op_run rfl rfl (v := Value.bool true) (w' := w1) ?_ rfl (Below.refl _ _)
                simp [execOp, Act.eval, h0, go_sem]
              · intro a w1 hR hsz hs      -- 11: slot 38
                obtain ⟨h0, _⟩ := hs
                have h0 : a.tmps.getD 37 undef = Value.bool true := h0
                refine op_run rfl rfl (v := Value.bool true) (w' := w1) ?_ rfl (Below.refl _ _)
                simp [execOp, Act.eval, h0, go_sem]
              · intro a w1 hR hsz hs      -- 12: slot 39
                obtain ⟨h0, h1, _⟩ := hs
                have h0 : a.tmps.getD 3 undef = .int .i64 (j : Nat) := h0
                have h1 : a.tmps.getD 38 undef = Value.bool true := h1
                exact opg_skip rfl rfl rfl (by rw [hsz]; decide) h1 rfl rfl
              · intro a w1 hR hsz hs      -- 13: slot 40
                obtain ⟨h0, h1, _⟩ := hs
                have h0 : a.tmps.getD 39 undef = undef := h0
                have h1 : a.tmps.getD 38 undef = Value.bool true := h1
                exact opg_skip rfl rfl rfl (by rw [hsz]; decide) h1 rfl rfl
              · intro a w1 hR hsz hs      -- 14: slot 41
                obtain ⟨h0, h1, _⟩ := hs
                have h0 : a.tmps.getD 40 undef = undef := h0
                have h1 : a.tmps.getD 38 undef = Value.bool true := h1
                exact opg_skip rfl rfl rfl (by rw [hsz]; decide) h1 rfl rfl
              · intro a w1 hR hsz hs      -- 15: slot 42
                obtain ⟨h0, h1, _⟩ := hs
                have h0 : a.tmps.getD 4 undef = .pointer (some ⟨p4, 0, none⟩) := h0
                have h1 : a.tmps.getD 41 undef = undef := h1
                exact opg_skipU rfl rfl rfl (by rw [hsz]; decide) h1 rfl
              · intro a w1 hR hsz hs      -- 16: slot 43
                obtain ⟨h0, h1, _⟩ := hs
                have h0 : a.tmps.getD 42 undef = undef := h0
                have h1 : a.tmps.getD 41 undef = undef := h1
                exact opg_skipU rfl rfl rfl (by rw [hsz]; decide) h1 rfl
              · intro a w1 hR hsz hs      -- 17: slot 44
                obtain ⟨h0, h1, _⟩ := hs
                have h0 : a.tmps.getD 0 undef = .slice (some ⟨b0, o0, none⟩) n c := h0
                have h1 : a.tmps.getD 41 undef = undef := h1
                exact opg_skipU rfl rfl rfl (by rw [hsz]; decide) h1 rfl
              · intro a w1 hR hsz hs      -- 18: slot 45
                obtain ⟨h0, h1, _⟩ := hs
                have h0 : a.tmps.getD 3 undef = .int .i64 (j : Nat) := h0
                have h1 : a.tmps.getD 41 undef = undef := h1
                exact opg_skipU rfl rfl rfl (by rw [hsz]; decide) h1 rfl
              · intro a w1 hR hsz hs      -- 19: slot 46
                obtain ⟨h0, h1, _⟩ := hs
                have h0 : a.tmps.getD 45 undef = undef := h0
                have h1 : a.tmps.getD 41 undef = undef := h1
                exact opg_skipU rfl rfl rfl (by rw [hsz]; decide) h1 rfl
              · intro a w1 hR hsz hs      -- 20: slot 47
                obtain ⟨h0, h1, h2, _⟩ := hs
                have h0 : a.tmps.getD 44 undef = undef := h0
                have h1 : a.tmps.getD 46 undef = undef := h1
                have h2 : a.tmps.getD 41 undef = undef := h2
                exact opg_skipU rfl rfl rfl (by rw [hsz]; decide) h2 rfl
              · intro a w1 hR hsz hs      -- 21: slot 48
                obtain ⟨h0, h1, _⟩ := hs
                have h0 : a.tmps.getD 47 undef = undef := h0
                have h1 : a.tmps.getD 41 undef = undef := h1
                exact opg_skipU rfl rfl rfl (by rw [hsz]; decide) h1 rfl
              · intro a w1 hR hsz hs      -- 22: slot 49
                obtain ⟨h0, h1, _⟩ := hs
                have h0 : a.tmps.getD 48 undef = undef := h0
                have h1 : a.tmps.getD 41 undef = undef := h1
                exact opg_skipU rfl rfl rfl (by rw [hsz]; decide) h1 rfl
              · intro a w1 hR hsz hs      -- 23: slot 50
                obtain ⟨h0, h1, h2, _⟩ := hs
                have h0 : a.tmps.getD 43 undef = undef := h0
                have h1 : a.tmps.getD 49 undef = undef := h1
                have h2 : a.tmps.getD 41 undef = undef := h2
                exact opg_skipU rfl rfl rfl (by rw [hsz]; decide) h2 rfl
              · intro a w1 hR hsz hs      -- 24: slot 51
                obtain ⟨h0, h1, h2, _⟩ := hs
                have h0 : a.tmps.getD 41 undef = undef := h0
                have h1 : a.tmps.getD 50 undef = undef := h1
                have h2 : a.tmps.getD 38 undef = Value.bool true := h2
                exact opg_skip rfl rfl rfl (by rw [hsz]; decide) h2 rfl rfl
              · intro a w1 hR hsz hs      -- 25: slot 52
                obtain ⟨h0, h1, _⟩ := hs
                have h0 : a.tmps.getD 38 undef = Value.bool true := h0
                have h1 : a.tmps.getD 51 undef = undef := h1
                refine op_run rfl rfl (v := Value.bool true) (w' := w1) ?_ rfl (Below.refl _ _)
                simp [execOp, Act.eval, h0, go_sem]
            intro f w1 hR hv
            have e52 : f 52 = .bool true := hv 25 _ 52 rfl rfl
            clear hv
            try simp only [Exit.then]
            simp only [putAll, List.foldl_cons, List.foldl_nil, Option.getD_some, Act.put, List.setIfInBounds_toArray, List.set_cons_succ, List.set_cons_zero]
            rw [e52]
            have HRR := Lib.hid hR
            clear hR e52
            -- END A
            go_wp2_with fail
            go_ret
            exact ⟨ret_bool HF.out.symm, HB2.out.trans (HRR.out.mono HB2.out.size)⟩
          | true =>
            have HOK := Lib.hid hk
            rw [hk] at HK
            clear hk
            cases hh : hasId (ts.take j) t.id with
            | true =>
              have HF := Lib.hid (rightC_bad HT.out (fun hx => by rw [hh] at hx; exact Bool.noConfusion hx.2.1))
              rw [hh] at HI
              clear hh
              -- REG B
              refine wp_region_tab (L := [cV (.agg #[.int .i64 t.id, .int .i64 t.owner, .int .i64 t.heir, .int .i64 t.at']), cV (.bool true), cV (.bool false), cV (.bool false), cV (.slice (some ⟨b0, o0, none⟩) n c), cV (.int .i64 (j : Nat)), cV (.slice (some ⟨b0, o0, none⟩) j c), cV (.pointer (some ⟨p4, 0, none⟩)), cV (.int .i64 t.id), cV (.bool true), cV (.bool true), cV (.bool true), cV (undef), cV (undef), cV (undef), cV (undef), cV (undef), cV (undef), cV (undef), cV (undef), cV (undef), cV (undef), cV (undef), cV (undef), cV (undef), cV (Value.bool true)]) [[(4, none)], [(27, some 0)], [(28, some 1)], [(29, some 2)], [(0, none), (30, some 3)], [(3, none), (30, some 3)], [(31, some 4), (32, some 5), (30, some 3)], [(4, none), (30, some 3)], [(34, some 7), (30, some 3)], [(33, some 6), (35, some 8), (30, some 3)], [(30, some 3), (36, some 9)], [(37, some 10)], [(3, none), (38, some 11)], [(39, some 12), (38, some 11)], [(40, some 13), (38, some 11)], [(4, none), (41, some 14)], [(42, some 15), (41, some 14)], [(0, none), (41, some 14)], [(3, none), (41, some 14)], [(45, some 18), (41, some 14)], [(44, some 17), (46, some 19), (41, some 14)], [(47, some 20), (41, some 14)], [(48, some 21), (41, some 14)], [(43, some 16), (49, some 22), (41, some 14)], [(41, some 14), (50, some 23), (38, some 11)], [(38, some 11), (51, some 24)]] 26 54 (by kernel_rfl) rfl rfl (by kernel_rfl) (by kernel_rfl) ?_ ?_
              · show ∀ i, i < 26 → _
                iterate 26 (refine fls ?_ ?_)
                · exact fl0
                · intro a w1 hR hsz hs      -- 0: slot 27
                  obtain ⟨h0, _⟩ := hs
                  have h0 : a.tmps.getD 4 undef = .pointer (some ⟨p4, 0, none⟩) := h0
                  obtain ⟨k0, k1, k2, k3⟩ := (HX.out.later hR).c4
                  refine op_run rfl rfl (v := .agg #[.int .i64 t.id, .int .i64 t.owner, .int .i64 t.heir, .int .i64 t.at']) (w' := w1) ?_ rfl (Below.refl _ _)
                  simp [execOp, Act.eval, h0, k0, k1, k2, k3, go_sem]
                · intro a w1 hR hsz hs      -- 1: slot 28
                  obtain ⟨h0, _⟩ := hs
                  have h0 : a.tmps.getD 27 undef = .agg #[.int .i64 t.id, .int .i64 t.owner, .int .i64 t.heir, .int .i64 t.at'] := h0
                  refine op_call rfl rfl (f := 77) (args := #[.agg #[.int .i64 t.id, .int .i64 t.owner, .int .i64 t.heir, .int .i64 t.at']]) (by simp [execOp, Act.eval, resolve, h0, go_sem]) ?_
                  exact calls_c (HK.out w1)
                · intro a w1 hR hsz hs      -- 2: slot 29
                  obtain ⟨h0, _⟩ := hs
                  have h0 : a.tmps.getD 28 undef = .bool true := h0
                  refine op_run rfl rfl (v := .bool false) (w' := w1) ?_ rfl (Below.refl _ _)
                  simp [execOp, Act.eval, h0, go_sem]
                · intro a w1 hR hsz hs      -- 3: slot 30
                  obtain ⟨h0, _⟩ := hs
                  have h0 : a.tmps.getD 29 undef = .bool false := h0
                  refine op_run rfl rfl (v := .bool false) (w' := w1) ?_ rfl (Below.refl _ _)
                  simp [execOp, Act.eval, h0, go_sem]
                · intro a w1 hR hsz hs      -- 4: slot 31
                  obtain ⟨h0, h1, _⟩ := hs
                  have h0 : a.tmps.getD 0 undef = .slice (some ⟨b0, o0, none⟩) n c := h0
                  have h1 : a.tmps.getD 30 undef = .bool false := h1
                  refine opg_run rfl rfl rfl (by rw [hsz]; decide) h1 (v := .slice (some ⟨b0, o0, none⟩) n c) (w' := w1) ?_ rfl (Below.refl _ _)
                  simp [execOp, Act.eval, h0, go_sem]
                · intro a w1 hR hsz hs      -- 5: slot 32
                  obtain ⟨h0, h1, _⟩ := hs
                  have h0 : a.tmps.getD 3 undef = .int .i64 (j : Nat) := h0
                  have h1 : a.tmps.getD 30 undef = .bool false := h1
                  refine opg_run rfl rfl rfl (by rw [hsz]; decide) h1 (v := .int .i64 (j : Nat)) (w' := w1) ?_ rfl (Below.refl _ _)
                  simp [execOp, Act.eval, h0, go_sem]
                · intro a w1 hR hsz hs      -- 6: slot 33
                  obtain ⟨h0, h1, h2, _⟩ := hs
                  have h0 : a.tmps.getD 31 undef = .slice (some ⟨b0, o0, none⟩) n c := h0
                  have h1 : a.tmps.getD 32 undef = .int .i64 (j : Nat) := h1
                  have h2 : a.tmps.getD 30 undef = .bool false := h2
                  have k0 := HSL.out w1
                  refine opg_run rfl rfl rfl (by rw [hsz]; decide) h2 (v := .slice (some ⟨b0, o0, none⟩) j c) (w' := w1) ?_ rfl (Below.refl _ _)
                  simp [execOp, Act.eval, h0, h1, k0, go_sem]
                · intro a w1 hR hsz hs      -- 7: slot 34
                  obtain ⟨h0, h1, _⟩ := hs
                  have h0 : a.tmps.getD 4 undef = .pointer (some ⟨p4, 0, none⟩) := h0
                  have h1 : a.tmps.getD 30 undef = .bool false := h1
                  refine opg_run rfl rfl rfl (by rw [hsz]; decide) h1 (v := .pointer (some ⟨p4, 0, none⟩)) (w' := w1) ?_ rfl (Below.refl _ _)
                  simp [execOp, Act.eval, h0, go_sem]
                · intro a w1 hR hsz hs      -- 8: slot 35
                  obtain ⟨h0, h1, _⟩ := hs
                  have h0 : a.tmps.getD 34 undef = .pointer (some ⟨p4, 0, none⟩) := h0
                  have h1 : a.tmps.getD 30 undef = .bool false := h1
                  obtain ⟨k0, k1, k2, k3⟩ := (HX.out.later hR).c4
                  refine opg_run rfl rfl rfl (by rw [hsz]; decide) h1 (v := .int .i64 t.id) (w' := w1) ?_ rfl (Below.refl _ _)
                  simp [execOp, Act.eval, h0, k0, go_sem]
                · intro a w1 hR hsz hs      -- 9: slot 36
                  obtain ⟨h0, h1, h2, _⟩ := hs
                  have h0 : a.tmps.getD 33 undef = .slice (some ⟨b0, o0, none⟩) j c := h0
                  have h1 : a.tmps.getD 35 undef = .int .i64 t.id := h1
                  have h2 : a.tmps.getD 30 undef = .bool false := h2
                  refine opg_call rfl rfl rfl (by rw [hsz]; decide) h2 (f := 78) (args := #[.slice (some ⟨b0, o0, none⟩) j c, .int .i64 t.id]) (by simp [execOp, Act.eval, resolve, h0, h1, go_sem]) ?_
                  exact calls_c (HI.out w1 hR)
                · intro a w1 hR hsz hs      -- 10: slot 37
                  obtain ⟨h0, h1, _⟩ := hs
                  have h0 : a.tmps.getD 30 undef = .bool false := h0
                  have h1 : a.tmps.getD 36 undef = .bool true := h1
                  refine op_run rfl rfl (v := .bool true) (w' := w1) ?_ rfl (Below.refl _ _)
                  simp [execOp, Act.eval, h0, h1, go_sem]
                · intro a w1 hR hsz hs      -- 11: slot 38
                  obtain ⟨h0, _⟩ := hs
                  have h0 : a.tmps.getD 37 undef = .bool true := h0
                  refine op_run rfl rfl (v := .bool true) (w' := w1) ?_ rfl (Below.refl _ _)
                  simp [execOp, Act.eval, h0, go_sem]
                · intro a w1 hR hsz hs      -- 12: slot 39
                  obtain ⟨h0, h1, _⟩ := hs
                  have h0 : a.tmps.getD 3 undef = .int .i64 (j : Nat) := h0
                  have h1 : a.tmps.getD 38 undef = .bool true := h1
                  exact opg_skip rfl rfl rfl (by rw [hsz]; decide) h1 rfl rfl
                · intro a w1 hR hsz hs      -- 13: slot 40
                  obtain ⟨h0, h1, _⟩ := hs
                  have h0 : a.tmps.getD 39 undef = undef := h0
                  have h1 : a.tmps.getD 38 undef = .bool true := h1
                  exact opg_skip rfl rfl rfl (by rw [hsz]; decide) h1 rfl rfl
                · intro a w1 hR hsz hs      -- 14: slot 41
                  obtain ⟨h0, h1, _⟩ := hs
                  have h0 : a.tmps.getD 40 undef = undef := h0
                  have h1 : a.tmps.getD 38 undef = .bool true := h1
                  exact opg_skip rfl rfl rfl (by rw [hsz]; decide) h1 rfl rfl
                · intro a w1 hR hsz hs      -- 15: slot 42
                  obtain ⟨h0, h1, _⟩ := hs
                  have h0 : a.tmps.getD 4 undef = .pointer (some ⟨p4, 0, none⟩) := h0
                  have h1 : a.tmps.getD 41 undef = undef := h1
                  exact opg_skipU rfl rfl rfl (by rw [hsz]; decide) h1 rfl
                · intro a w1 hR hsz hs      -- 16: slot 43
                  obtain ⟨h0, h1, _⟩ := hs
                  have h0 : a.tmps.getD 42 undef = undef := h0
                  have h1 : a.tmps.getD 41 undef = undef := h1
                  exact opg_skipU rfl rfl rfl (by rw [hsz]; decide) h1 rfl
                · intro a w1 hR hsz hs      -- 17: slot 44
                  obtain ⟨h0, h1, _⟩ := hs
                  have h0 : a.tmps.getD 0 undef = .slice (some ⟨b0, o0, none⟩) n c := h0
                  have h1 : a.tmps.getD 41 undef = undef := h1
                  exact opg_skipU rfl rfl rfl (by rw [hsz]; decide) h1 rfl
                · intro a w1 hR hsz hs      -- 18: slot 45
                  obtain ⟨h0, h1, _⟩ := hs
                  have h0 : a.tmps.getD 3 undef = .int .i64 (j : Nat) := h0
                  have h1 : a.tmps.getD 41 undef = undef := h1
                  exact opg_skipU rfl rfl rfl (by rw [hsz]; decide) h1 rfl
                · intro a w1 hR hsz hs      -- 19: slot 46
                  obtain ⟨h0, h1, _⟩ := hs
                  have h0 : a.tmps.getD 45 undef = undef := h0
                  have h1 : a.tmps.getD 41 undef = undef := h1
                  exact opg_skipU rfl rfl rfl (by rw [hsz]; decide) h1 rfl
                · intro a w1 hR hsz hs      -- 20: slot 47
                  obtain ⟨h0, h1, h2, _⟩ := hs
                  have h0 : a.tmps.getD 44 undef = undef := h0
                  have h1 : a.tmps.getD 46 undef = undef := h1
                  have h2 : a.tmps.getD 41 undef = undef := h2
                  exact opg_skipU rfl rfl rfl (by rw [hsz]; decide) h2 rfl
                · intro a w1 hR hsz hs      -- 21: slot 48
                  obtain ⟨h0, h1, _⟩ := hs
                  have h0 : a.tmps.getD 47 undef = undef := h0
                  have h1 : a.tmps.getD 41 undef = undef := h1
                  exact opg_skipU rfl rfl rfl (by rw [hsz]; decide) h1 rfl
                · intro a w1 hR hsz hs      -- 22: slot 49
                  obtain ⟨h0, h1, _⟩ := hs
                  have h0 : a.tmps.getD 48 undef = undef := h0
                  have h1 : a.tmps.getD 41 undef = undef := h1
                  exact opg_skipU rfl rfl rfl (by rw [hsz]; decide) h1 rfl
                · intro a w1 hR hsz hs      -- 23: slot 50
                  obtain ⟨h0, h1, h2, _⟩ := hs
                  have h0 : a.tmps.getD 43 undef = undef := h0
                  have h1 : a.tmps.getD 49 undef = undef := h1
                  have h2 : a.tmps.getD 41 undef = undef := h2
                  exact opg_skipU rfl rfl rfl (by rw [hsz]; decide) h2 rfl
                · intro a w1 hR hsz hs      -- 24: slot 51
                  obtain ⟨h0, h1, h2, _⟩ := hs
                  have h0 : a.tmps.getD 41 undef = undef := h0
                  have h1 : a.tmps.getD 50 undef = undef := h1
                  have h2 : a.tmps.getD 38 undef = .bool true := h2
                  exact opg_skip rfl rfl rfl (by rw [hsz]; decide) h2 rfl rfl
                · intro a w1 hR hsz hs      -- 25: slot 52
                  obtain ⟨h0, h1, _⟩ := hs
                  have h0 : a.tmps.getD 38 undef = .bool true := h0
                  have h1 : a.tmps.getD 51 undef = undef := h1
                  refine op_run rfl rfl (v := Value.bool true) (w' := w1) ?_ rfl (Below.refl _ _)
                  simp [execOp, Act.eval, h0, go_sem]
              intro f w1 hR hv
              have e52 : f 52 = .bool true := hv 25 _ 52 rfl rfl
              clear hv
              try simp only [Exit.then]
              simp only [putAll, List.foldl_cons, List.foldl_nil, Option.getD_some, Act.put, List.setIfInBounds_toArray, List.set_cons_succ, List.set_cons_zero]
              rw [e52]
              have HRR := Lib.hid hR
              clear hR e52
              -- END B
              go_wp2_with fail
              go_ret
              exact ⟨ret_bool HF.out.symm, HB2.out.trans (HRR.out.mono HB2.out.size)⟩
            | false =>
              have HOH := Lib.hid hh
              rw [hh] at HI
              clear hh
              cases j with
              | zero =>
                have HA2 : Hid (∀ m, m < 0 + 1 → stepOk ts m) := Lib.hid (fun m hm => by
                  obtain rfl : m = 0 := by omega
                  intro s hs
                  rw [HT.out] at hs
                  cases hs
                  exact ⟨HOK.out, HOH.out, fun u h0 => absurd h0 (by omega)⟩)
                -- REG C
                refine wp_region_tab (L := [cV (.agg #[.int .i64 t.id, .int .i64 t.owner, .int .i64 t.heir, .int .i64 t.at']), cV (.bool true), cV (.bool false), cV (.bool false), cV (.slice (some ⟨b0, o0, none⟩) n c), cV (.int .i64 (0 : Nat)), cV (.slice (some ⟨b0, o0, none⟩) 0 c), cV (.pointer (some ⟨p4, 0, none⟩)), cV (.int .i64 t.id), cV (.bool false), cV (.bool false), cV (.bool false), cV (.int .i64 (0 : Nat)), cV (.bool false), cV (.bool false), cV (undef), cV (undef), cV (undef), cV (undef), cV (undef), cV (undef), cV (undef), cV (undef), cV (undef), cV (Value.bool false), cV (Value.bool false)]) [[(4, none)], [(27, some 0)], [(28, some 1)], [(29, some 2)], [(0, none), (30, some 3)], [(3, none), (30, some 3)], [(31, some 4), (32, some 5), (30, some 3)], [(4, none), (30, some 3)], [(34, some 7), (30, some 3)], [(33, some 6), (35, some 8), (30, some 3)], [(30, some 3), (36, some 9)], [(37, some 10)], [(3, none), (38, some 11)], [(39, some 12), (38, some 11)], [(40, some 13), (38, some 11)], [(4, none), (41, some 14)], [(42, some 15), (41, some 14)], [(0, none), (41, some 14)], [(3, none), (41, some 14)], [(45, some 18), (41, some 14)], [(44, some 17), (46, some 19), (41, some 14)], [(47, some 20), (41, some 14)], [(48, some 21), (41, some 14)], [(43, some 16), (49, some 22), (41, some 14)], [(41, some 14), (50, some 23), (38, some 11)], [(38, some 11), (51, some 24)]] 26 54 (by kernel_rfl) rfl rfl (by kernel_rfl) (by kernel_rfl) ?_ ?_
                · show ∀ i, i < 26 → _
                  iterate 26 (refine fls ?_ ?_)
                  · exact fl0
                  · intro a w1 hR hsz hs      -- 0: slot 27
                    obtain ⟨h0, _⟩ := hs
                    have h0 : a.tmps.getD 4 undef = .pointer (some ⟨p4, 0, none⟩) := h0
                    obtain ⟨k0, k1, k2, k3⟩ := (HX.out.later hR).c4
                    refine op_run rfl rfl (v := .agg #[.int .i64 t.id, .int .i64 t.owner, .int .i64 t.heir, .int .i64 t.at']) (w' := w1) ?_ rfl (Below.refl _ _)
                    simp [execOp, Act.eval, h0, k0, k1, k2, k3, go_sem]
                  · intro a w1 hR hsz hs      -- 1: slot 28
                    obtain ⟨h0, _⟩ := hs
                    have h0 : a.tmps.getD 27 undef = .agg #[.int .i64 t.id, .int .i64 t.owner, .int .i64 t.heir, .int .i64 t.at'] := h0
                    refine op_call rfl rfl (f := 77) (args := #[.agg #[.int .i64 t.id, .int .i64 t.owner, .int .i64 t.heir, .int .i64 t.at']]) (by simp [execOp, Act.eval, resolve, h0, go_sem]) ?_
                    exact calls_c (HK.out w1)
                  · intro a w1 hR hsz hs      -- 2: slot 29
                    obtain ⟨h0, _⟩ := hs
                    have h0 : a.tmps.getD 28 undef = .bool true := h0
                    refine op_run rfl rfl (v := .bool false) (w' := w1) ?_ rfl (Below.refl _ _)
                    simp [execOp, Act.eval, h0, go_sem]
                  · intro a w1 hR hsz hs      -- 3: slot 30
                    obtain ⟨h0, _⟩ := hs
                    have h0 : a.tmps.getD 29 undef = .bool false := h0
                    refine op_run rfl rfl (v := .bool false) (w' := w1) ?_ rfl (Below.refl _ _)
                    simp [execOp, Act.eval, h0, go_sem]
                  · intro a w1 hR hsz hs      -- 4: slot 31
                    obtain ⟨h0, h1, _⟩ := hs
                    have h0 : a.tmps.getD 0 undef = .slice (some ⟨b0, o0, none⟩) n c := h0
                    have h1 : a.tmps.getD 30 undef = .bool false := h1
                    refine opg_run rfl rfl rfl (by rw [hsz]; decide) h1 (v := .slice (some ⟨b0, o0, none⟩) n c) (w' := w1) ?_ rfl (Below.refl _ _)
                    simp [execOp, Act.eval, h0, go_sem]
                  · intro a w1 hR hsz hs      -- 5: slot 32
                    obtain ⟨h0, h1, _⟩ := hs
                    have h0 : a.tmps.getD 3 undef = .int .i64 (0 : Nat) := h0
                    have h1 : a.tmps.getD 30 undef = .bool false := h1
                    refine opg_run rfl rfl rfl (by rw [hsz]; decide) h1 (v := .int .i64 (0 : Nat)) (w' := w1) ?_ rfl (Below.refl _ _)
                    simp [execOp, Act.eval, h0, go_sem]
                  · intro a w1 hR hsz hs      -- 6: slot 33
                    obtain ⟨h0, h1, h2, _⟩ := hs
                    have h0 : a.tmps.getD 31 undef = .slice (some ⟨b0, o0, none⟩) n c := h0
                    have h1 : a.tmps.getD 32 undef = .int .i64 (0 : Nat) := h1
                    have h2 : a.tmps.getD 30 undef = .bool false := h2
                    have k0 := HSL.out w1
                    refine opg_run rfl rfl rfl (by rw [hsz]; decide) h2 (v := .slice (some ⟨b0, o0, none⟩) 0 c) (w' := w1) ?_ rfl (Below.refl _ _)
                    simp [execOp, Act.eval, h0, h1, k0, go_sem]
                  · intro a w1 hR hsz hs      -- 7: slot 34
                    obtain ⟨h0, h1, _⟩ := hs
                    have h0 : a.tmps.getD 4 undef = .pointer (some ⟨p4, 0, none⟩) := h0
                    have h1 : a.tmps.getD 30 undef = .bool false := h1
                    refine opg_run rfl rfl rfl (by rw [hsz]; decide) h1 (v := .pointer (some ⟨p4, 0, none⟩)) (w' := w1) ?_ rfl (Below.refl _ _)
                    simp [execOp, Act.eval, h0, go_sem]
                  · intro a w1 hR hsz hs      -- 8: slot 35
                    obtain ⟨h0, h1, _⟩ := hs
                    have h0 : a.tmps.getD 34 undef = .pointer (some ⟨p4, 0, none⟩) := h0
                    have h1 : a.tmps.getD 30 undef = .bool false := h1
                    obtain ⟨k0, k1, k2, k3⟩ := (HX.out.later hR).c4
                    refine opg_run rfl rfl rfl (by rw [hsz]; decide) h1 (v := .int .i64 t.id) (w' := w1) ?_ rfl (Below.refl _ _)
                    simp [execOp, Act.eval, h0, k0, go_sem]
                  · intro a w1 hR hsz hs      -- 9: slot 36
                    obtain ⟨h0, h1, h2, _⟩ := hs
                    have h0 : a.tmps.getD 33 undef = .slice (some ⟨b0, o0, none⟩) 0 c := h0
                    have h1 : a.tmps.getD 35 undef = .int .i64 t.id := h1
                    have h2 : a.tmps.getD 30 undef = .bool false := h2
                    refine opg_call rfl rfl rfl (by rw [hsz]; decide) h2 (f := 78) (args := #[.slice (some ⟨b0, o0, none⟩) 0 c, .int .i64 t.id]) (by simp [execOp, Act.eval, resolve, h0, h1, go_sem]) ?_
                    exact calls_c (HI.out w1 hR)
                  · intro a w1 hR hsz hs      -- 10: slot 37
                    obtain ⟨h0, h1, _⟩ := hs
                    have h0 : a.tmps.getD 30 undef = .bool false := h0
                    have h1 : a.tmps.getD 36 undef = .bool false := h1
                    refine op_run rfl rfl (v := .bool false) (w' := w1) ?_ rfl (Below.refl _ _)
                    simp [execOp, Act.eval, h0, h1, go_sem]
                  · intro a w1 hR hsz hs      -- 11: slot 38
                    obtain ⟨h0, _⟩ := hs
                    have h0 : a.tmps.getD 37 undef = .bool false := h0
                    refine op_run rfl rfl (v := .bool false) (w' := w1) ?_ rfl (Below.refl _ _)
                    simp [execOp, Act.eval, h0, go_sem]
                  · intro a w1 hR hsz hs      -- 12: slot 39
                    obtain ⟨h0, h1, _⟩ := hs
                    have h0 : a.tmps.getD 3 undef = .int .i64 (0 : Nat) := h0
                    have h1 : a.tmps.getD 38 undef = .bool false := h1
                    refine opg_run rfl rfl rfl (by rw [hsz]; decide) h1 (v := .int .i64 (0 : Nat)) (w' := w1) ?_ rfl (Below.refl _ _)
                    simp [execOp, Act.eval, h0, go_sem]
                  · intro a w1 hR hsz hs      -- 13: slot 40
                    obtain ⟨h0, h1, _⟩ := hs
                    have h0 : a.tmps.getD 39 undef = .int .i64 (0 : Nat) := h0
                    have h1 : a.tmps.getD 38 undef = .bool false := h1
                    refine opg_run rfl rfl rfl (by rw [hsz]; decide) h1 (v := .bool false) (w' := w1) ?_ rfl (Below.refl _ _)
                    simp [execOp, Act.eval, h0, go_sem]
                  · intro a w1 hR hsz hs      -- 14: slot 41
                    obtain ⟨h0, h1, _⟩ := hs
                    have h0 : a.tmps.getD 40 undef = .bool false := h0
                    have h1 : a.tmps.getD 38 undef = .bool false := h1
                    refine opg_run rfl rfl rfl (by rw [hsz]; decide) h1 (v := .bool false) (w' := w1) ?_ rfl (Below.refl _ _)
                    simp [execOp, Act.eval, h0, go_sem]
                  · intro a w1 hR hsz hs      -- 15: slot 42
                    obtain ⟨h0, h1, _⟩ := hs
                    have h0 : a.tmps.getD 4 undef = .pointer (some ⟨p4, 0, none⟩) := h0
                    have h1 : a.tmps.getD 41 undef = .bool false := h1
                    exact opg_skip rfl rfl rfl (by rw [hsz]; decide) h1 rfl rfl
                  · intro a w1 hR hsz hs      -- 16: slot 43
                    obtain ⟨h0, h1, _⟩ := hs
                    have h0 : a.tmps.getD 42 undef = undef := h0
                    have h1 : a.tmps.getD 41 undef = .bool false := h1
                    exact opg_skip rfl rfl rfl (by rw [hsz]; decide) h1 rfl rfl
                  · intro a w1 hR hsz hs      -- 17: slot 44
                    obtain ⟨h0, h1, _⟩ := hs
                    have h0 : a.tmps.getD 0 undef = .slice (some ⟨b0, o0, none⟩) n c := h0
                    have h1 : a.tmps.getD 41 undef = .bool false := h1
                    exact opg_skip rfl rfl rfl (by rw [hsz]; decide) h1 rfl rfl
                  · intro a w1 hR hsz hs      -- 18: slot 45
                    obtain ⟨h0, h1, _⟩ := hs
                    have h0 : a.tmps.getD 3 undef = .int .i64 (0 : Nat) := h0
                    have h1 : a.tmps.getD 41 undef = .bool false := h1
                    exact opg_skip rfl rfl rfl (by rw [hsz]; decide) h1 rfl rfl
                  · intro a w1 hR hsz hs      -- 19: slot 46
                    obtain ⟨h0, h1, _⟩ := hs
                    have h0 : a.tmps.getD 45 undef = undef := h0
                    have h1 : a.tmps.getD 41 undef = .bool false := h1
                    exact opg_skip rfl rfl rfl (by rw [hsz]; decide) h1 rfl rfl
                  · intro a w1 hR hsz hs      -- 20: slot 47
                    obtain ⟨h0, h1, h2, _⟩ := hs
                    have h0 : a.tmps.getD 44 undef = undef := h0
                    have h1 : a.tmps.getD 46 undef = undef := h1
                    have h2 : a.tmps.getD 41 undef = .bool false := h2
                    exact opg_skip rfl rfl rfl (by rw [hsz]; decide) h2 rfl rfl
                  · intro a w1 hR hsz hs      -- 21: slot 48
                    obtain ⟨h0, h1, _⟩ := hs
                    have h0 : a.tmps.getD 47 undef = undef := h0
                    have h1 : a.tmps.getD 41 undef = .bool false := h1
                    exact opg_skip rfl rfl rfl (by rw [hsz]; decide) h1 rfl rfl
                  · intro a w1 hR hsz hs      -- 22: slot 49
                    obtain ⟨h0, h1, _⟩ := hs
                    have h0 : a.tmps.getD 48 undef = undef := h0
                    have h1 : a.tmps.getD 41 undef = .bool false := h1
                    exact opg_skip rfl rfl rfl (by rw [hsz]; decide) h1 rfl rfl
                  · intro a w1 hR hsz hs      -- 23: slot 50
                    obtain ⟨h0, h1, h2, _⟩ := hs
                    have h0 : a.tmps.getD 43 undef = undef := h0
                    have h1 : a.tmps.getD 49 undef = undef := h1
                    have h2 : a.tmps.getD 41 undef = .bool false := h2
                    exact opg_skip rfl rfl rfl (by rw [hsz]; decide) h2 rfl rfl
                  · intro a w1 hR hsz hs      -- 24: slot 51
                    obtain ⟨h0, h1, h2, _⟩ := hs
                    have h0 : a.tmps.getD 41 undef = .bool false := h0
                    have h1 : a.tmps.getD 50 undef = undef := h1
                    have h2 : a.tmps.getD 38 undef = .bool false := h2
                    refine opg_run rfl rfl rfl (by rw [hsz]; decide) h2 (v := Value.bool false) (w' := w1) ?_ rfl (Below.refl _ _)
                    simp [execOp, Act.eval, h0, go_sem]
                  · intro a w1 hR hsz hs      -- 25: slot 52
                    obtain ⟨h0, h1, _⟩ := hs
                    have h0 : a.tmps.getD 38 undef = .bool false := h0
                    have h1 : a.tmps.getD 51 undef = Value.bool false := h1
                    refine op_run rfl rfl (v := Value.bool false) (w' := w1) ?_ rfl (Below.refl _ _)
                    simp [execOp, Act.eval, h0, h1, go_sem]
                intro f w1 hR hv
                have e52 : f 52 = .bool false := hv 25 _ 52 rfl rfl
                clear hv
                try simp only [Exit.then]
                simp only [putAll, List.foldl_cons, List.foldl_nil, Option.getD_some, Act.put, List.setIfInBounds_toArray, List.set_cons_succ, List.set_cons_zero]
                rw [e52]
                have HRR := Lib.hid hR
                clear hR e52
                -- END C
                go_wp2_with fail
                go_roundw
                case rel => exact ⟨1, by go_num, by omega, HB2.out.trans (HRR.out.mono HB2.out.size), HA2⟩
                case measure => simp [intOf]; omega
              | succ i =>
                obtain ⟨u, hu⟩ : ∃ u, ts[i]? = some u := ⟨ts[i]'(by have := HN.out; omega), List.getElem?_eq_getElem _⟩
                have HU : Hid (∀ W, Below w2.heap.size w2 W → W.cell? ⟨b0, o0 + i * 4 + 3, none⟩ = some (.int .i64 u.at')) := Lib.hid (fun W h => by
                  obtain ⟨b2, o2, e2, q0, q1, q2, q3⟩ := ((HR.out.later HB2.out).later h).at hu
                  cases e2
                  exact q3)
                have HUG := Lib.hid hu
                clear hu
                obtain ⟨L, hL⟩ : ∃ L, decide (t.at' < u.at') = L := ⟨_, rfl⟩
                have HL := Lib.hid hL
                clear hL
                -- REG D
                refine wp_region_tab (L := [cV (.agg #[.int .i64 t.id, .int .i64 t.owner, .int .i64 t.heir, .int .i64 t.at']), cV (.bool true), cV (.bool false), cV (.bool false), cV (.slice (some ⟨b0, o0, none⟩) n c), cV (.int .i64 (i + 1 : Nat)), cV (.slice (some ⟨b0, o0, none⟩) (i + 1) c), cV (.pointer (some ⟨p4, 0, none⟩)), cV (.int .i64 t.id), cV (.bool false), cV (.bool false), cV (.bool false), cV (.int .i64 (i + 1 : Nat)), cV (.bool true), cV (.bool true), cV (.pointer (some ⟨p4, 3, none⟩)), cV (.int .i64 t.at'), cV (.slice (some ⟨b0, o0, none⟩) n c), cV (.int .i64 (i + 1 : Nat)), cV (.int .i64 (i : Nat)), cV (.pointer (some ⟨b0, o0 + i * 4, none⟩)), cV (.pointer (some ⟨b0, o0 + i * 4 + 3, none⟩)), cV (.int .i64 u.at'), cV (.bool L), cV (.bool L), cV (.bool L)]) [[(4, none)], [(27, some 0)], [(28, some 1)], [(29, some 2)], [(0, none), (30, some 3)], [(3, none), (30, some 3)], [(31, some 4), (32, some 5), (30, some 3)], [(4, none), (30, some 3)], [(34, some 7), (30, some 3)], [(33, some 6), (35, some 8), (30, some 3)], [(30, some 3), (36, some 9)], [(37, some 10)], [(3, none), (38, some 11)], [(39, some 12), (38, some 11)], [(40, some 13), (38, some 11)], [(4, none), (41, some 14)], [(42, some 15), (41, some 14)], [(0, none), (41, some 14)], [(3, none), (41, some 14)], [(45, some 18), (41, some 14)], [(44, some 17), (46, some 19), (41, some 14)], [(47, some 20), (41, some 14)], [(48, some 21), (41, some 14)], [(43, some 16), (49, some 22), (41, some 14)], [(41, some 14), (50, some 23), (38, some 11)], [(38, some 11), (51, some 24)]] 26 54 (by kernel_rfl) rfl rfl (by kernel_rfl) (by kernel_rfl) ?_ ?_
                · show ∀ i, i < 26 → _
                  iterate 26 (refine fls ?_ ?_)
                  · exact fl0
                  · intro a w1 hR hsz hs      -- 0: slot 27
                    obtain ⟨h0, _⟩ := hs
                    have h0 : a.tmps.getD 4 undef = .pointer (some ⟨p4, 0, none⟩) := h0
                    obtain ⟨k0, k1, k2, k3⟩ := (HX.out.later hR).c4
                    refine op_run rfl rfl (v := .agg #[.int .i64 t.id, .int .i64 t.owner, .int .i64 t.heir, .int .i64 t.at']) (w' := w1) ?_ rfl (Below.refl _ _)
                    simp [execOp, Act.eval, h0, k0, k1, k2, k3, go_sem]
                  · intro a w1 hR hsz hs      -- 1: slot 28
                    obtain ⟨h0, _⟩ := hs
                    have h0 : a.tmps.getD 27 undef = .agg #[.int .i64 t.id, .int .i64 t.owner, .int .i64 t.heir, .int .i64 t.at'] := h0
                    refine op_call rfl rfl (f := 77) (args := #[.agg #[.int .i64 t.id, .int .i64 t.owner, .int .i64 t.heir, .int .i64 t.at']]) (by simp [execOp, Act.eval, resolve, h0, go_sem]) ?_
                    exact calls_c (HK.out w1)
                  · intro a w1 hR hsz hs      -- 2: slot 29
                    obtain ⟨h0, _⟩ := hs
                    have h0 : a.tmps.getD 28 undef = .bool true := h0
                    refine op_run rfl rfl (v := .bool false) (w' := w1) ?_ rfl (Below.refl _ _)
                    simp [execOp, Act.eval, h0, go_sem]
                  · intro a w1 hR hsz hs      -- 3: slot 30
                    obtain ⟨h0, _⟩ := hs
                    have h0 : a.tmps.getD 29 undef = .bool false := h0
                    refine op_run rfl rfl (v := .bool false) (w' := w1) ?_ rfl (Below.refl _ _)
                    simp [execOp, Act.eval, h0, go_sem]
                  · intro a w1 hR hsz hs      -- 4: slot 31
                    obtain ⟨h0, h1, _⟩ := hs
                    have h0 : a.tmps.getD 0 undef = .slice (some ⟨b0, o0, none⟩) n c := h0
                    have h1 : a.tmps.getD 30 undef = .bool false := h1
                    refine opg_run rfl rfl rfl (by rw [hsz]; decide) h1 (v := .slice (some ⟨b0, o0, none⟩) n c) (w' := w1) ?_ rfl (Below.refl _ _)
                    simp [execOp, Act.eval, h0, go_sem]
                  · intro a w1 hR hsz hs      -- 5: slot 32
                    obtain ⟨h0, h1, _⟩ := hs
                    have h0 : a.tmps.getD 3 undef = .int .i64 (i + 1 : Nat) := h0
                    have h1 : a.tmps.getD 30 undef = .bool false := h1
                    refine opg_run rfl rfl rfl (by rw [hsz]; decide) h1 (v := .int .i64 (i + 1 : Nat)) (w' := w1) ?_ rfl (Below.refl _ _)
                    simp [execOp, Act.eval, h0, go_sem]
                  · intro a w1 hR hsz hs      -- 6: slot 33
                    obtain ⟨h0, h1, h2, _⟩ := hs
                    have h0 : a.tmps.getD 31 undef = .slice (some ⟨b0, o0, none⟩) n c := h0
                    have h1 : a.tmps.getD 32 undef = .int .i64 (i + 1 : Nat) := h1
                    have h2 : a.tmps.getD 30 undef = .bool false := h2
                    have k0 := HSL.out w1
                    have e0 : ((i + 1 : Nat) : Int) = (i : Int) + 1 := by omega
                    rw [e0] at k0
                    refine opg_run rfl rfl rfl (by rw [hsz]; decide) h2 (v := .slice (some ⟨b0, o0, none⟩) (i + 1) c) (w' := w1) ?_ rfl (Below.refl _ _)
                    simp [execOp, Act.eval, h0, h1, k0, go_sem]
                  · intro a w1 hR hsz hs      -- 7: slot 34
                    obtain ⟨h0, h1, _⟩ := hs
                    have h0 : a.tmps.getD 4 undef = .pointer (some ⟨p4, 0, none⟩) := h0
                    have h1 : a.tmps.getD 30 undef = .bool false := h1
                    refine opg_run rfl rfl rfl (by rw [hsz]; decide) h1 (v := .pointer (some ⟨p4, 0, none⟩)) (w' := w1) ?_ rfl (Below.refl _ _)
                    simp [execOp, Act.eval, h0, go_sem]
                  · intro a w1 hR hsz hs      -- 8: slot 35
                    obtain ⟨h0, h1, _⟩ := hs
                    have h0 : a.tmps.getD 34 undef = .pointer (some ⟨p4, 0, none⟩) := h0
                    have h1 : a.tmps.getD 30 undef = .bool false := h1
                    obtain ⟨k0, k1, k2, k3⟩ := (HX.out.later hR).c4
                    refine opg_run rfl rfl rfl (by rw [hsz]; decide) h1 (v := .int .i64 t.id) (w' := w1) ?_ rfl (Below.refl _ _)
                    simp [execOp, Act.eval, h0, k0, go_sem]
                  · intro a w1 hR hsz hs      -- 9: slot 36
                    obtain ⟨h0, h1, h2, _⟩ := hs
                    have h0 : a.tmps.getD 33 undef = .slice (some ⟨b0, o0, none⟩) (i + 1) c := h0
                    have h1 : a.tmps.getD 35 undef = .int .i64 t.id := h1
                    have h2 : a.tmps.getD 30 undef = .bool false := h2
                    refine opg_call rfl rfl rfl (by rw [hsz]; decide) h2 (f := 78) (args := #[.slice (some ⟨b0, o0, none⟩) (i + 1) c, .int .i64 t.id]) (by simp [execOp, Act.eval, resolve, h0, h1, go_sem]) ?_
                    exact calls_c (HI.out w1 hR)
                  · intro a w1 hR hsz hs      -- 10: slot 37
                    obtain ⟨h0, h1, _⟩ := hs
                    have h0 : a.tmps.getD 30 undef = .bool false := h0
                    have h1 : a.tmps.getD 36 undef = .bool false := h1
                    refine op_run rfl rfl (v := .bool false) (w' := w1) ?_ rfl (Below.refl _ _)
                    simp [execOp, Act.eval, h0, h1, go_sem]
                  · intro a w1 hR hsz hs      -- 11: slot 38
                    obtain ⟨h0, _⟩ := hs
                    have h0 : a.tmps.getD 37 undef = .bool false := h0
                    refine op_run rfl rfl (v := .bool false) (w' := w1) ?_ rfl (Below.refl _ _)
                    simp [execOp, Act.eval, h0, go_sem]
                  · intro a w1 hR hsz hs      -- 12: slot 39
                    obtain ⟨h0, h1, _⟩ := hs
                    have h0 : a.tmps.getD 3 undef = .int .i64 (i + 1 : Nat) := h0
                    have h1 : a.tmps.getD 38 undef = .bool false := h1
                    refine opg_run rfl rfl rfl (by rw [hsz]; decide) h1 (v := .int .i64 (i + 1 : Nat)) (w' := w1) ?_ rfl (Below.refl _ _)
                    simp [execOp, Act.eval, h0, go_sem]
                  · intro a w1 hR hsz hs      -- 13: slot 40
                    obtain ⟨h0, h1, _⟩ := hs
                    have h0 : a.tmps.getD 39 undef = .int .i64 (i + 1 : Nat) := h0
                    have h1 : a.tmps.getD 38 undef = .bool false := h1
                    have k0 : ((0 : Int) < ((i + 1 : Nat) : Int)) := by omega
                    refine opg_run rfl rfl rfl (by rw [hsz]; decide) h1 (v := .bool true) (w' := w1) ?_ rfl (Below.refl _ _)
                    simp [execOp, Act.eval, h0, k0, go_sem]
                  · intro a w1 hR hsz hs      -- 14: slot 41
                    obtain ⟨h0, h1, _⟩ := hs
                    have h0 : a.tmps.getD 40 undef = .bool true := h0
                    have h1 : a.tmps.getD 38 undef = .bool false := h1
                    refine opg_run rfl rfl rfl (by rw [hsz]; decide) h1 (v := .bool true) (w' := w1) ?_ rfl (Below.refl _ _)
                    simp [execOp, Act.eval, h0, go_sem]
                  · intro a w1 hR hsz hs      -- 15: slot 42
                    obtain ⟨h0, h1, _⟩ := hs
                    have h0 : a.tmps.getD 4 undef = .pointer (some ⟨p4, 0, none⟩) := h0
                    have h1 : a.tmps.getD 41 undef = .bool true := h1
                    refine opg_run rfl rfl rfl (by rw [hsz]; decide) h1 (v := .pointer (some ⟨p4, 3, none⟩)) (w' := w1) ?_ rfl (Below.refl _ _)
                    simp [execOp, Act.eval, h0, go_sem]
                  · intro a w1 hR hsz hs      -- 16: slot 43
                    obtain ⟨h0, h1, _⟩ := hs
                    have h0 : a.tmps.getD 42 undef = .pointer (some ⟨p4, 3, none⟩) := h0
                    have h1 : a.tmps.getD 41 undef = .bool true := h1
                    obtain ⟨k0, k1, k2, k3⟩ := (HX.out.later hR).c4
                    refine opg_run rfl rfl rfl (by rw [hsz]; decide) h1 (v := .int .i64 t.at') (w' := w1) ?_ rfl (Below.refl _ _)
                    simp [execOp, Act.eval, h0, k3, go_sem]
                  · intro a w1 hR hsz hs      -- 17: slot 44
                    obtain ⟨h0, h1, _⟩ := hs
                    have h0 : a.tmps.getD 0 undef = .slice (some ⟨b0, o0, none⟩) n c := h0
                    have h1 : a.tmps.getD 41 undef = .bool true := h1
                    refine opg_run rfl rfl rfl (by rw [hsz]; decide) h1 (v := .slice (some ⟨b0, o0, none⟩) n c) (w' := w1) ?_ rfl (Below.refl _ _)
                    simp [execOp, Act.eval, h0, go_sem]
                  · intro a w1 hR hsz hs      -- 18: slot 45
                    obtain ⟨h0, h1, _⟩ := hs
                    have h0 : a.tmps.getD 3 undef = .int .i64 (i + 1 : Nat) := h0
                    have h1 : a.tmps.getD 41 undef = .bool true := h1
                    refine opg_run rfl rfl rfl (by rw [hsz]; decide) h1 (v := .int .i64 (i + 1 : Nat)) (w' := w1) ?_ rfl (Below.refl _ _)
                    simp [execOp, Act.eval, h0, go_sem]
                  · intro a w1 hR hsz hs      -- 19: slot 46
                    obtain ⟨h0, h1, _⟩ := hs
                    have h0 : a.tmps.getD 45 undef = .int .i64 (i + 1 : Nat) := h0
                    have h1 : a.tmps.getD 41 undef = .bool true := h1
                    have k0 : IntKind.i64.wrap (((i + 1 : Nat) : Int) - 1) = (i : Nat) := by rw [IntKind.wrap_i64]; omega
                    have k1 : IntKind.i64.wrap ((i : Nat) : Int) = (i : Nat) := by rw [IntKind.wrap_i64]; omega
                    refine opg_run rfl rfl rfl (by rw [hsz]; decide) h1 (v := .int .i64 (i : Nat)) (w' := w1) ?_ rfl (Below.refl _ _)
                    simp [execOp, Act.eval, h0, k0, k1, go_sem]
                  · intro a w1 hR hsz hs      -- 20: slot 47
                    obtain ⟨h0, h1, h2, _⟩ := hs
                    have h0 : a.tmps.getD 44 undef = .slice (some ⟨b0, o0, none⟩) n c := h0
                    have h1 : a.tmps.getD 46 undef = .int .i64 (i : Nat) := h1
                    have h2 : a.tmps.getD 41 undef = .bool true := h2
                    have k0 : ((i : Nat) : Int) < (n : Int) := by omega
                    refine opg_run rfl rfl rfl (by rw [hsz]; decide) h2 (v := .pointer (some ⟨b0, o0 + i * 4, none⟩)) (w' := w1) ?_ rfl (Below.refl _ _)
                    simp [execOp, Act.eval, h0, h1, k0, go_sem]
                  · intro a w1 hR hsz hs      -- 21: slot 48
                    obtain ⟨h0, h1, _⟩ := hs
                    have h0 : a.tmps.getD 47 undef = .pointer (some ⟨b0, o0 + i * 4, none⟩) := h0
                    have h1 : a.tmps.getD 41 undef = .bool true := h1
                    refine opg_run rfl rfl rfl (by rw [hsz]; decide) h1 (v := .pointer (some ⟨b0, o0 + i * 4 + 3, none⟩)) (w' := w1) ?_ rfl (Below.refl _ _)
                    simp [execOp, Act.eval, h0, go_sem]
                  · intro a w1 hR hsz hs      -- 22: slot 49
                    obtain ⟨h0, h1, _⟩ := hs
                    have h0 : a.tmps.getD 48 undef = .pointer (some ⟨b0, o0 + i * 4 + 3, none⟩) := h0
                    have h1 : a.tmps.getD 41 undef = .bool true := h1
                    have k0 := HU.out w1 hR
                    refine opg_run rfl rfl rfl (by rw [hsz]; decide) h1 (v := .int .i64 u.at') (w' := w1) ?_ rfl (Below.refl _ _)
                    simp [execOp, Act.eval, h0, k0, go_sem]
                  · intro a w1 hR hsz hs      -- 23: slot 50
                    obtain ⟨h0, h1, h2, _⟩ := hs
                    have h0 : a.tmps.getD 43 undef = .int .i64 t.at' := h0
                    have h1 : a.tmps.getD 49 undef = .int .i64 u.at' := h1
                    have h2 : a.tmps.getD 41 undef = .bool true := h2
                    have k0 := HL.out
                    refine opg_run rfl rfl rfl (by rw [hsz]; decide) h2 (v := .bool L) (w' := w1) ?_ rfl (Below.refl _ _)
                    simp [execOp, Act.eval, h0, h1, k0, go_sem]
                  · intro a w1 hR hsz hs      -- 24: slot 51
                    obtain ⟨h0, h1, h2, _⟩ := hs
                    have h0 : a.tmps.getD 41 undef = .bool true := h0
                    have h1 : a.tmps.getD 50 undef = .bool L := h1
                    have h2 : a.tmps.getD 38 undef = .bool false := h2
                    refine opg_run rfl rfl rfl (by rw [hsz]; decide) h2 (v := .bool L) (w' := w1) ?_ rfl (Below.refl _ _)
                    simp [execOp, Act.eval, h0, h1, go_sem]
                  · intro a w1 hR hsz hs      -- 25: slot 52
                    obtain ⟨h0, h1, _⟩ := hs
                    have h0 : a.tmps.getD 38 undef = .bool false := h0
                    have h1 : a.tmps.getD 51 undef = .bool L := h1
                    refine op_run rfl rfl (v := .bool L) (w' := w1) ?_ rfl (Below.refl _ _)
                    simp [execOp, Act.eval, h0, h1, go_sem]
                intro f w1 hR hv
                have e52 : f 52 = .bool L := hv 25 _ 52 rfl rfl
                clear hv
                try simp only [Exit.then]
                simp only [putAll, List.foldl_cons, List.foldl_nil, Option.getD_some, Act.put, List.setIfInBounds_toArray, List.set_cons_succ, List.set_cons_zero]
                rw [e52]
                have HRR := Lib.hid hR
                clear hR e52
                -- END D
                cases L with
                | true =>
                  have HF := Lib.hid (rightC_bad HT.out (fun hx => by have := hx.2.2 u (by omega) HUG.out; have := HL.out; simp at this; omega))
                  go_wp2_with fail
                  go_ret
                  exact ⟨ret_bool HF.out.symm, HB2.out.trans (HRR.out.mono HB2.out.size)⟩
                | false =>
                  have HA2 : Hid (∀ m, m < i + 1 + 1 → stepOk ts m) := Lib.hid (fun m hm => by
                    by_cases e : m = i + 1
                    · subst e
                      intro s hs
                      rw [HT.out] at hs
                      cases hs
                      refine ⟨HOK.out, HOH.out, fun v h0 hv => ?_⟩
                      rw [show i + 1 - 1 = i by omega, HUG.out] at hv
                      cases hv
                      have := HL.out; simp at this; omega
                    · exact HA.out m (by omega))
                  go_wp2_with fail
                  go_roundw
                  case rel => exact ⟨i + 1 + 1, by go_num, by omega, HB2.out.trans (HRR.out.mono HB2.out.size), HA2⟩
                  case measure => simp [intOf]; omega
        · have : j = n := by omega
          subst this
          have HY := Lib.hid (rightC_steps.2 ⟨by have := HN.out; omega, by have := HN.out; omega, fun t ht => by rw [HT0.out] at ht; cases ht; exact HZ.out, fun m hm => HA.out m (by have := HN.out; omega)⟩)
          go_wp2_with fail
          go_ret
          exact ⟨ret_bool HY.out.symm, HB.out⟩
    · have hzb : (t0.at' == 0) = false := by simpa using hz
      have HF := Lib.hid (rightC_false (ts := ts) (fun hx => hz (hx.2.2.1 t0 HT0.out)))
      clear hz
      go_enter Try.func42, Try.ntmps42
      go_wp2_with fail
      go_ret
      exact ⟨ret_bool HF.out.symm, Below.refl _ _⟩
end Go.Proofs.Ytiahifpbofkimaa
