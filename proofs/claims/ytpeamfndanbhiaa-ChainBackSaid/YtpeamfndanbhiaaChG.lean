/- Chains: their bytes. -/
import Derived.Test.YtpeamfndanbhiaaChB
import Derived.Test.YtpeamfndanbhiaaChF
import Derived.Test.YtpeamfndanbhiaaApp
import Derived.Test.YtpeamfndanbhiaaPhase
import Derived.Test.YtpeamfndanbhiaaCl
namespace Go.Proofs.Ytpeamfndanbhiaa
open Go.RowKit Go.Proofs
set_option linter.unusedVariables false
set_option linter.unusedSimpArgs false

/-! ### a tag's numbers, one behind the other -/
theorem run_ix4 (W : World) (a b c d : Int) (k : Nat) (v : Int) (h : [a, b, c, d][k]? = some v) : (Instr.index 48 (.agg #[.int .i64 a, .int .i64 b, .int .i64 c, .int .i64 d]) (.int .i64 (k : Nat))).run Try.prog W = .ok (.int .i64 v) W := by
  have u3 := Try.underlying3
  have a3 := Try.isAgg3
  have z3 := Try.sizeOf3
  match k, h with
  | 0, h => simp at h; subst h; simp [Instr.index, asIntOf, run_underlying Try.underlying48, go_sem, a3, z3]
  | 1, h => simp at h; subst h; simp [Instr.index, asIntOf, run_underlying Try.underlying48, go_sem, a3, z3]
  | 2, h => simp at h; subst h; simp [Instr.index, asIntOf, run_underlying Try.underlying48, go_sem, a3, z3]
  | 3, h => simp at h; subst h; simp [Instr.index, asIntOf, run_underlying Try.underlying48, go_sem, a3, z3]
  | k + 4, h => simp at h
def tagN (t : Tg) : Nat → Int
  | 0 => t.id
  | 1 => t.owner
  | 2 => t.heir
  | _ => t.at'
def tagP (t : Tg) : Nat → List UInt8
  | 0 => []
  | k + 1 => tagP t k ++ varL (tagN t k).toNat
theorem tagP_four (t : Tg) : tagP t 4 = tagL t := by simp [tagP, tagN, tagL]
theorem tagP_le (t : Tg) : ∀ k, k ≤ 4 → (tagP t k).length ≤ (tagL t).length := by
  intro k hk
  rw [← tagP_four]
  have hs : ∀ i, (tagP t i).length ≤ (tagP t (i + 1)).length := fun i => by simp [tagP]
  have h0 := hs 0; have h1 := hs 1; have h2 := hs 2; have h3 := hs 3
  match k, hk with
  | 0, _ => simp [tagP]
  | 1, _ => simp only [Nat.zero_add, Nat.reduceAdd] at *; omega
  | 2, _ => simp only [Nat.zero_add, Nat.reduceAdd] at *; omega
  | 3, _ => simp only [Nat.zero_add, Nat.reduceAdd] at *; omega
  | 4, _ => exact Nat.le_refl _
/-- What is laid when j tags are, and k numbers of the next one. -/
def partC (ts : List Tg) (j : Nat) (t : Tg) (k : Nat) : List UInt8 := varL ts.length ++ rowC (ts.take j) ++ tagP t k
theorem partC_next (ts : List Tg) (j : Nat) (t : Tg) (k : Nat) : partC ts j t k ++ varL (tagN t k).toNat = partC ts j t (k + 1) := by unfold partC; simp [tagP]
theorem partC_len {ts : List Tg} (h : ChOk ts) {j : Nat} {t : Tg} (ht : ts[j]? = some t) {k : Nat} (hk : k ≤ 4) : (partC ts j t k).length ≤ 417 := by
  have h1 := endC_succ ht
  have h2 := endC_le ts (j + 1)
  have h3 := (putC_len h).2
  have h4 := tagP_le t k hk
  have h5 : endC ts j = (varL ts.length).length + (rowC (ts.take j)).length := rfl
  unfold partC
  simp only [List.length_append]
  omega
/-- What is laid when j tags are. -/
def headC (ts : List Tg) (j : Nat) : List UInt8 := varL ts.length ++ rowC (ts.take j)
theorem headC_part (ts : List Tg) (j : Nat) (t : Tg) : headC ts j = partC ts j t 0 := by unfold headC partC; simp [tagP]
theorem part_headC {ts : List Tg} {j : Nat} {t : Tg} (ht : ts[j]? = some t) : partC ts j t 4 = headC ts (j + 1) := by
  unfold partC headC; rw [tagP_four, rowC_snoc ht, List.append_assoc]
theorem headC_zero (ts : List Tg) : headC ts 0 = varL ts.length := by unfold headC; simp [rowC]
theorem headC_all {ts : List Tg} {n : Nat} (h : ts.length = n) : headC ts n = putC ts := by unfold headC putC; rw [← h, List.take_length]
theorem own_nilB {w w1 : World} (hb : Below w.heap.size w w1) : Own w w1 (.slice none 0 0) [] := ⟨World.ownsRow_nil _ _ _ _, hb⟩

set_option maxRecDepth 100000 in
set_option maxHeartbeats 6400000 in
theorem put_any (ad : Option Addr) (n c : Nat) (ts : List Tg) (w : World) (hr : TRow w ad c ts) (hn : ts.length = n) :
    Calls Try.prog 11 #[.slice ad n c] w fun e w' => ∃ v, e = .returned (.tuple #[v, .int .i64 (putCh ts).2]) ∧ Own w w' v (putCh ts).1 := by
  have HK := Lib.hid (right_any ad n c ts w hr hn)
  have HR := Lib.hid hr
  have HN := Lib.hid hn
  have hc1 := hr.1
  rw [hn] at hc1
  have hcm : c ≤ 9223372036854775807 := by have := hr.2.1; unfold maxLen at this; omega
  clear hr hn
  cases hx : rightC ts with
  | false =>
    rw [hx] at HK
    rw [putCh_no hx]
    clear hx
    go_enter Try.func11, Try.ntmps11
    go_wp2_with fail
    refine HK.out.mono ?_
    rintro e w1 ⟨rfl, hb1⟩
    go_wp2_with fail
    go_ret2
    exact ⟨_, rfl, own_nilB hb1⟩
  | true =>
    rw [hx] at HK
    rw [putCh_yes hx]
    have HX := Lib.hid (rightC_iff.1 hx)
    have hn32 : 1 ≤ n ∧ n ≤ 32 := by have h1 := HX.out.1; have h2 := HX.out.2.1; rw [HN.out] at h1 h2; exact ⟨h1, h2⟩
    have HV : Hid (varL ((n : Int).toNat) = headC ts 0) := Lib.hid (by rw [headC_zero, HN.out, Int.toNat_natCast])
    clear hx
    go_enter Try.func11, Try.ntmps11
    go_wp2_with fail
    refine HK.out.mono ?_
    rintro e w1 ⟨rfl, hb1⟩
    have HB1 := Lib.hid hb1
    clear hb1
    go_wp2_with fail
    refine (var_any none 0 0 [] n w1 (Row.none w1) rfl (by omega) (by omega)).mono ?_
    rw [List.nil_append, HV.out]
    rintro e w2 ⟨v2, rfl, o2⟩
    have HO : Hid (Own w w2 v2 (headC ts 0)) := Lib.hid (o2.back HB1.out)
    clear o2
    go_wp2_with fail
    go_loopw [4, 6, 8, 17] (fun v _ _ i wr => ∃ j : Nat, i = .int .i64 j ∧ j ≤ n ∧ Hid (Own w wr v (headC ts j))) (fun _ _ _ i _ => n - (intOf i).toNat)
    case atStart => exact ⟨0, rfl, by omega, HO⟩
    case round =>
      obtain ⟨j, rfl, hj, hO⟩ := hrel
      by_cases hjn : (j : Int) < n
      · obtain ⟨t, ht⟩ : ∃ t, ts[j]? = some t := ⟨ts[j]'(by have := HN.out; omega), List.getElem?_eq_getElem _⟩
        obtain ⟨b1, o1, rfl, p0, p1, p2, p3⟩ := (HR.out.later hO.out.below).at ht
        have HT := Lib.hid ht
        have HTB := Lib.hid (HR.out.b ht)
        clear ht
        have hba : Below wr.heap.size wr (wr.alloc (.cells #[.int .i64 t.id, .int .i64 t.owner, .int .i64 t.heir, .int .i64 t.at'] 43)) := (Below.refl _ _).alloc (Nat.le_refl _) _
        have HX0 := Lib.hid (RecAt.new wr #[.int .i64 t.id, .int .i64 t.owner, .int .i64 t.heir, .int .i64 t.at'] 43)
        have HO2 := Lib.hid (hO.out.later hba)
        rw [headC_part ts j t] at HO2
        clear hba
        go_upto_region 7 with fail
        clear p0 p1 p2 p3 hO
        generalize (wr.alloc (.cells #[.int .i64 t.id, .int .i64 t.owner, .int .i64 t.heir, .int .i64 t.at'] 43)) = w3 at *
        generalize wr.heap.size = p4 at *
        obtain ⟨x0, x1, x2, x3⟩ := HX0.out.c4
        go_wp2_with fail
        clear x0 x1 x2 x3 HX0
        go_loopw [4, 8, 30] (fun v _ i wr => (i = .int .i64 0 ∧ Hid (Own w wr v (partC ts j t 0))) ∨ (i = .int .i64 1 ∧ Hid (Own w wr v (partC ts j t 1))) ∨ (i = .int .i64 2 ∧ Hid (Own w wr v (partC ts j t 2))) ∨ (i = .int .i64 3 ∧ Hid (Own w wr v (partC ts j t 3))) ∨ (i = .int .i64 4 ∧ Hid (Own w wr v (partC ts j t 4)))) (fun _ _ i _ => 4 - (intOf i).toNat)
        case atStart => exact .inl ⟨rfl, HO2⟩
        case round =>
          rcases hrel with ⟨rfl, hO⟩ | ⟨rfl, hO⟩ | ⟨rfl, hO⟩ | ⟨rfl, hO⟩ | ⟨rfl, hO⟩
          · obtain ⟨N, hNl⟩ : ∃ N, (partC ts j t 0).length = N := ⟨_, rfl⟩
            obtain ⟨a4, c4, rfl, r4⟩ := hO.out.row_n hNl
            have hN2 : N ≤ 417 := by rw [← hNl]; exact partC_len HX.out HT.out (by omega)
            have hix : ∀ W, (Instr.index 48 (.agg #[.int .i64 t.id, .int .i64 t.owner, .int .i64 t.heir, .int .i64 t.at']) (.int .i64 0)).run Try.prog W = .ok (.int .i64 t.id) W := fun W => run_ix4 W _ _ _ _ 0 _ rfl
            have HK2 := Lib.hid (var_any a4 N c4 _ t.id _ r4 hNl (by omega) (by have := HTB.out; unfold Tg.B I64 at this; omega))
            clear hNl r4
            go_wp2_with fail
            refine HK2.out.mono ?_
            rintro e w5 ⟨v5, rfl, o5⟩
            have HO5 : Hid (Own w w5 v5 (partC ts j t 1)) := Lib.hid (by rw [← partC_next]; exact o5.back hO.out.below)
            clear o5
            go_wp2_with fail
            go_roundw
            case rel => exact .inr (.inl ⟨rfl, HO5⟩)
            case measure => simp [intOf]
          · obtain ⟨N, hNl⟩ : ∃ N, (partC ts j t 1).length = N := ⟨_, rfl⟩
            obtain ⟨a4, c4, rfl, r4⟩ := hO.out.row_n hNl
            have hN2 : N ≤ 417 := by rw [← hNl]; exact partC_len HX.out HT.out (by omega)
            have hix : ∀ W, (Instr.index 48 (.agg #[.int .i64 t.id, .int .i64 t.owner, .int .i64 t.heir, .int .i64 t.at']) (.int .i64 1)).run Try.prog W = .ok (.int .i64 t.owner) W := fun W => run_ix4 W _ _ _ _ 1 _ rfl
            have HK2 := Lib.hid (var_any a4 N c4 _ t.owner _ r4 hNl (by omega) (by have := HTB.out; unfold Tg.B I64 at this; omega))
            clear hNl r4
            go_wp2_with fail
            refine HK2.out.mono ?_
            rintro e w5 ⟨v5, rfl, o5⟩
            have HO5 : Hid (Own w w5 v5 (partC ts j t 2)) := Lib.hid (by rw [← partC_next]; exact o5.back hO.out.below)
            clear o5
            go_wp2_with fail
            go_roundw
            case rel => exact .inr (.inr (.inl ⟨rfl, HO5⟩))
            case measure => simp [intOf]
          · obtain ⟨N, hNl⟩ : ∃ N, (partC ts j t 2).length = N := ⟨_, rfl⟩
            obtain ⟨a4, c4, rfl, r4⟩ := hO.out.row_n hNl
            have hN2 : N ≤ 417 := by rw [← hNl]; exact partC_len HX.out HT.out (by omega)
            have hix : ∀ W, (Instr.index 48 (.agg #[.int .i64 t.id, .int .i64 t.owner, .int .i64 t.heir, .int .i64 t.at']) (.int .i64 2)).run Try.prog W = .ok (.int .i64 t.heir) W := fun W => run_ix4 W _ _ _ _ 2 _ rfl
            have HK2 := Lib.hid (var_any a4 N c4 _ t.heir _ r4 hNl (by omega) (by have := HTB.out; unfold Tg.B I64 at this; omega))
            clear hNl r4
            go_wp2_with fail
            refine HK2.out.mono ?_
            rintro e w5 ⟨v5, rfl, o5⟩
            have HO5 : Hid (Own w w5 v5 (partC ts j t 3)) := Lib.hid (by rw [← partC_next]; exact o5.back hO.out.below)
            clear o5
            go_wp2_with fail
            go_roundw
            case rel => exact .inr (.inr (.inr (.inl ⟨rfl, HO5⟩)))
            case measure => simp [intOf]
          · obtain ⟨N, hNl⟩ : ∃ N, (partC ts j t 3).length = N := ⟨_, rfl⟩
            obtain ⟨a4, c4, rfl, r4⟩ := hO.out.row_n hNl
            have hN2 : N ≤ 417 := by rw [← hNl]; exact partC_len HX.out HT.out (by omega)
            have hix : ∀ W, (Instr.index 48 (.agg #[.int .i64 t.id, .int .i64 t.owner, .int .i64 t.heir, .int .i64 t.at']) (.int .i64 3)).run Try.prog W = .ok (.int .i64 t.at') W := fun W => run_ix4 W _ _ _ _ 3 _ rfl
            have HK2 := Lib.hid (var_any a4 N c4 _ t.at' _ r4 hNl (by omega) (by have := HTB.out; unfold Tg.B I64 at this; omega))
            clear hNl r4
            go_wp2_with fail
            refine HK2.out.mono ?_
            rintro e w5 ⟨v5, rfl, o5⟩
            have HO5 : Hid (Own w w5 v5 (partC ts j t 4)) := Lib.hid (by rw [← partC_next]; exact o5.back hO.out.below)
            clear o5
            go_wp2_with fail
            go_roundw
            case rel => exact .inr (.inr (.inr (.inr ⟨rfl, HO5⟩)))
            case measure => simp [intOf]
          · have HO5 := hO
            rw [part_headC HT.out] at HO5
            clear hO
            go_wp2_with fail
            go_roundw
            case rel => exact ⟨j + 1, by go_num, by omega, HO5⟩
            case measure => simp [intOf]; omega
      · have : j = n := by omega
        subst this
        have HO5 := hO
        rw [headC_all HN.out] at HO5
        clear hO
        go_wp2_with fail
        go_ret2
        exact ⟨_, rfl, HO5.out⟩

set_option maxRecDepth 100000 in
set_option maxHeartbeats 6400000 in
theorem rput_any (ad : Option Addr) (n c : Nat) (ts : List Tg) (w : World) (hr : TRow w ad c ts) (hn : ts.length = n) :
    Calls Try.prog 12 #[.slice ad n c] w fun e w' => ∃ v, e = .returned (.tuple #[v, .int .i64 (putCh ts).2]) ∧ Own w w' v (putCh ts).1 := by
  have HK := Lib.hid (rright_any ad n c ts w hr hn)
  have HR := Lib.hid hr
  have HN := Lib.hid hn
  have hc1 := hr.1
  rw [hn] at hc1
  have hcm : c ≤ 9223372036854775807 := by have := hr.2.1; unfold maxLen at this; omega
  clear hr hn
  cases hx : rightC ts with
  | false =>
    rw [hx] at HK
    rw [putCh_no hx]
    clear hx
    go_enter Try.func12, Try.ntmps12
    go_wp2_with fail
    refine HK.out.mono ?_
    rintro e w1 ⟨rfl, hb1⟩
    go_wp2_with fail
    go_ret2
    exact ⟨_, rfl, own_nilB hb1⟩
  | true =>
    rw [hx] at HK
    rw [putCh_yes hx]
    have HX := Lib.hid (rightC_iff.1 hx)
    have hn32 : 1 ≤ n ∧ n ≤ 32 := by have h1 := HX.out.1; have h2 := HX.out.2.1; rw [HN.out] at h1 h2; exact ⟨h1, h2⟩
    have HV : Hid (varL ((n : Int).toNat) = headC ts 0) := Lib.hid (by rw [headC_zero, HN.out, Int.toNat_natCast])
    clear hx
    go_enter Try.func12, Try.ntmps12
    go_wp2_with fail
    refine HK.out.mono ?_
    rintro e w1 ⟨rfl, hb1⟩
    have HB1 := Lib.hid hb1
    clear hb1
    go_wp2_with fail
    refine (rvar_any none 0 0 [] n w1 (Row.none w1) rfl (by omega) (by omega)).mono ?_
    rw [List.nil_append, HV.out]
    rintro e w2 ⟨v2, rfl, o2⟩
    have HO : Hid (Own w w2 v2 (headC ts 0)) := Lib.hid (o2.back HB1.out)
    clear o2
    go_wp2_with fail
    go_loopw [4, 5] (fun v i wr => ∃ j : Nat, i = .int .i64 j ∧ j ≤ n ∧ Hid (Own w wr v (headC ts j))) (fun _ i _ => n - (intOf i).toNat)
    case atStart => exact ⟨0, rfl, by omega, HO⟩
    case round =>
      obtain ⟨j, rfl, hj, hO⟩ := hrel
      by_cases hjn : (j : Int) < n
      · obtain ⟨t, ht⟩ : ∃ t, ts[j]? = some t := ⟨ts[j]'(by have := HN.out; omega), List.getElem?_eq_getElem _⟩
        have HW := Lib.hid hO.out.below
        obtain ⟨b0, o0, rfl, _, _, _, _⟩ := (HR.out.later HW.out).at ht
        have HT := Lib.hid ht
        have HTB := Lib.hid (HR.out.b ht)
        clear ht
        have HC : Hid (∀ W, Below wr.heap.size wr W → W.cell? ⟨b0, o0 + j * 4, none⟩ = some (.int .i64 t.id) ∧ W.cell? ⟨b0, o0 + j * 4 + 1, none⟩ = some (.int .i64 t.owner) ∧ W.cell? ⟨b0, o0 + j * 4 + 2, none⟩ = some (.int .i64 t.heir) ∧ W.cell? ⟨b0, o0 + j * 4 + 3, none⟩ = some (.int .i64 t.at')) := Lib.hid (fun W h => by
          obtain ⟨b, o, e, q⟩ := ((HR.out.later HW.out).later h).at HT.out
          cases e
          exact q)
        obtain ⟨N0, hN0⟩ : ∃ N, (partC ts j t 0).length = N := ⟨_, rfl⟩
        obtain ⟨N1, hN1⟩ : ∃ N, (partC ts j t 1).length = N := ⟨_, rfl⟩
        obtain ⟨N2, hN2⟩ : ∃ N, (partC ts j t 2).length = N := ⟨_, rfl⟩
        obtain ⟨N3, hN3⟩ : ∃ N, (partC ts j t 3).length = N := ⟨_, rfl⟩
        have hl0 : N0 ≤ 417 := by rw [← hN0]; exact partC_len HX.out HT.out (by omega)
        have hl1 : N1 ≤ 417 := by rw [← hN1]; exact partC_len HX.out HT.out (by omega)
        have hl2 : N2 ≤ 417 := by rw [← hN2]; exact partC_len HX.out HT.out (by omega)
        have hl3 : N3 ≤ 417 := by rw [← hN3]; exact partC_len HX.out HT.out (by omega)
        have HO0 := hO
        rw [headC_part ts j t] at HO0
        obtain ⟨a0, q0, rfl, r0⟩ := HO0.out.row_n hN0
        have HO := Lib.hid r0
        obtain ⟨B, hB⟩ : ∃ B, partC ts j t 0 = B := ⟨_, rfl⟩
        obtain ⟨D1, hD1⟩ : ∃ B, partC ts j t 1 = B := ⟨_, rfl⟩
        obtain ⟨D2, hD2⟩ : ∃ B, partC ts j t 2 = B := ⟨_, rfl⟩
        obtain ⟨D3, hD3⟩ : ∃ B, partC ts j t 3 = B := ⟨_, rfl⟩
        obtain ⟨D4, hD4⟩ : ∃ B, partC ts j t 4 = B := ⟨_, rfl⟩
        have HD1 : Hid (B ++ varL t.id.toNat = D1) := Lib.hid (by rw [← hB, ← hD1]; exact partC_next ts j t 0)
        have HD2 : Hid (D1 ++ varL t.owner.toNat = D2) := Lib.hid (by rw [← hD1, ← hD2]; exact partC_next ts j t 1)
        have HD3 : Hid (D2 ++ varL t.heir.toNat = D3) := Lib.hid (by rw [← hD2, ← hD3]; exact partC_next ts j t 2)
        have HD4 : Hid (D3 ++ varL t.at'.toNat = D4) := Lib.hid (by rw [← hD3, ← hD4]; exact partC_next ts j t 3)
        have HDD : Hid (D4 = headC ts (j + 1)) := Lib.hid (by rw [← hD4, part_headC HT.out])
        rw [hB] at hN0 HO
        rw [hD1] at hN1
        rw [hD2] at hN2
        rw [hD3] at hN3
        have HN0 := Lib.hid hN0
        have HN1 := Lib.hid hN1
        have HN2 := Lib.hid hN2
        have HN3 := Lib.hid hN3
        clear hB hD1 hD2 hD3 hD4 hN0 hN1 hN2 hN3 r0 HO0 hO
        go_upto_region 7 with fail
        -- REG 7
        refine wp_region_ptab (L := fun ph => match ph with | _ => [cV (.slice a0 N0 q0), cV (.slice (some ⟨b0, o0, none⟩) n c), cV (.int .i64 (j : Nat)), cV (.pointer (some ⟨b0, o0 + j * 4, none⟩)), cV (.pointer (some ⟨b0, o0 + j * 4, none⟩)), cV (.int .i64 t.id), oV w D1, cV (.slice (some ⟨b0, o0, none⟩) n c), cV (.int .i64 (j : Nat)), cV (.pointer (some ⟨b0, o0 + j * 4, none⟩)), cV (.pointer (some ⟨b0, o0 + j * 4 + 1, none⟩)), cV (.int .i64 t.owner), oV w D2, cV (.slice (some ⟨b0, o0, none⟩) n c), cV (.int .i64 (j : Nat)), cV (.pointer (some ⟨b0, o0 + j * 4, none⟩)), cV (.pointer (some ⟨b0, o0 + j * 4 + 2, none⟩)), cV (.int .i64 t.heir), oV w D3, cV (.slice (some ⟨b0, o0, none⟩) n c), cV (.int .i64 (j : Nat)), cV (.pointer (some ⟨b0, o0 + j * 4, none⟩)), cV (.pointer (some ⟨b0, o0 + j * 4 + 3, none⟩)), cV (.int .i64 t.at'), oV w D4, oV w D4]) (fun _ wq => Below wr.heap.size wr wq) [] [(0, 0), (0, 0), (0, 0), (0, 0), (0, 0), (0, 0), (0, 0), (0, 0), (0, 0), (0, 0), (0, 0), (0, 0), (0, 0), (0, 0), (0, 0), (0, 0), (0, 0), (0, 0), (0, 0), (0, 0), (0, 0), (0, 0), (0, 0), (0, 0), (0, 0), (0, 0)] [[(4, none)], [(0, none)], [(5, none)], [(19, some 1), (20, some 2)], [(21, some 3)], [(22, some 4)], [(18, some 0), (23, some 5)], [(0, none)], [(5, none)], [(25, some 7), (26, some 8)], [(27, some 9)], [(28, some 10)], [(24, some 6), (29, some 11)], [(0, none)], [(5, none)], [(31, some 13), (32, some 14)], [(33, some 15)], [(34, some 16)], [(30, some 12), (35, some 17)], [(0, none)], [(5, none)], [(37, some 19), (38, some 20)], [(39, some 21)], [(40, some 22)], [(36, some 18), (41, some 23)], [(42, some 24)]] 26 0 44 (by kernel_rfl) rfl rfl rfl (by kernel_rfl) (by kernel_rfl) (by decide) (by kernel_rfl) ?_ ?_ ?_ ?_ ?_
        · exact fun ph w1 w2 h hb => h.trans (hb.mono h.size)
        · exact Below.refl _ _
        · show ∀ i, i < 26 → _
          iterate 26 (refine fls ?_ ?_)
          · exact fl0
          · intro hne lo hi ph hran hp1 hp2 a w1 hJ hsz hs      -- 0: slot 18
            obtain ⟨rfl, rfl⟩ : 0 = lo ∧ 0 = hi := Prod.mk.inj (Option.some.inj hran)
            obtain rfl : ph = 0 := by omega
            obtain ⟨h0, _⟩ := hs
            have h0 : a.tmps.getD 4 undef = .slice a0 N0 q0 := h0
            refine op_run rfl rfl (v := .slice a0 N0 q0) (w' := w1) ?_ rfl (Below.refl _ _)
            simp [execOp, Act.eval, h0, go_sem]
          · intro hne lo hi ph hran hp1 hp2 a w1 hJ hsz hs      -- 1: slot 19
            obtain ⟨rfl, rfl⟩ : 0 = lo ∧ 0 = hi := Prod.mk.inj (Option.some.inj hran)
            obtain rfl : ph = 0 := by omega
            obtain ⟨h0, _⟩ := hs
            have h0 : a.tmps.getD 0 undef = .slice (some ⟨b0, o0, none⟩) n c := h0
            refine op_run rfl rfl (v := .slice (some ⟨b0, o0, none⟩) n c) (w' := w1) ?_ rfl (Below.refl _ _)
            simp [execOp, Act.eval, h0, go_sem]
          · intro hne lo hi ph hran hp1 hp2 a w1 hJ hsz hs      -- 2: slot 20
            obtain ⟨rfl, rfl⟩ : 0 = lo ∧ 0 = hi := Prod.mk.inj (Option.some.inj hran)
            obtain rfl : ph = 0 := by omega
            obtain ⟨h0, _⟩ := hs
            have h0 : a.tmps.getD 5 undef = .int .i64 (j : Nat) := h0
            refine op_run rfl rfl (v := .int .i64 (j : Nat)) (w' := w1) ?_ rfl (Below.refl _ _)
            simp [execOp, Act.eval, h0, go_sem]
          · intro hne lo hi ph hran hp1 hp2 a w1 hJ hsz hs      -- 3: slot 21
            obtain ⟨rfl, rfl⟩ : 0 = lo ∧ 0 = hi := Prod.mk.inj (Option.some.inj hran)
            obtain rfl : ph = 0 := by omega
            obtain ⟨h0, h1, _⟩ := hs
            have h0 : a.tmps.getD 19 undef = .slice (some ⟨b0, o0, none⟩) n c := h0
            have h1 : a.tmps.getD 20 undef = .int .i64 (j : Nat) := h1
            have k0 : ((j : Nat) : Int) < (n : Int) := by omega
            refine op_run rfl rfl (v := .pointer (some ⟨b0, o0 + j * 4, none⟩)) (w' := w1) ?_ rfl (Below.refl _ _)
            simp [execOp, Act.eval, h0, h1, k0, go_sem]
          · intro hne lo hi ph hran hp1 hp2 a w1 hJ hsz hs      -- 4: slot 22
            obtain ⟨rfl, rfl⟩ : 0 = lo ∧ 0 = hi := Prod.mk.inj (Option.some.inj hran)
            obtain rfl : ph = 0 := by omega
            obtain ⟨h0, _⟩ := hs
            have h0 : a.tmps.getD 21 undef = .pointer (some ⟨b0, o0 + j * 4, none⟩) := h0
            refine op_run rfl rfl (v := .pointer (some ⟨b0, o0 + j * 4, none⟩)) (w' := w1) ?_ rfl (Below.refl _ _)
            simp [execOp, Act.eval, h0, go_sem]
          · intro hne lo hi ph hran hp1 hp2 a w1 hJ hsz hs      -- 5: slot 23
            obtain ⟨rfl, rfl⟩ : 0 = lo ∧ 0 = hi := Prod.mk.inj (Option.some.inj hran)
            obtain rfl : ph = 0 := by omega
            obtain ⟨h0, _⟩ := hs
            have h0 : a.tmps.getD 22 undef = .pointer (some ⟨b0, o0 + j * 4, none⟩) := h0
            obtain ⟨k0, k1, k2, k3⟩ := HC.out w1 hJ
            refine op_run rfl rfl (v := .int .i64 t.id) (w' := w1) ?_ rfl (Below.refl _ _)
            simp [execOp, Act.eval, h0, k0, go_sem]
          · intro hne lo hi ph hran hp1 hp2 a w1 hJ hsz hs      -- 6: slot 24
            obtain ⟨rfl, rfl⟩ : 0 = lo ∧ 0 = hi := Prod.mk.inj (Option.some.inj hran)
            obtain rfl : ph = 0 := by omega
            obtain ⟨h0, h1, _⟩ := hs
            have h0 : a.tmps.getD 18 undef = .slice a0 N0 q0 := h0
            have h1 : a.tmps.getD 23 undef = .int .i64 t.id := h1
            refine op_call rfl rfl (f := 33) (args := #[.slice a0 N0 q0, .int .i64 t.id]) (by simp [execOp, Act.eval, resolve, h0, h1, go_sem]) ?_
            exact ov_of (rvar_any a0 N0 q0 B t.id w1 (HO.out.later hJ) HN0.out (by omega) (by have := HTB.out; unfold Tg.B I64 at this; omega)) (HW.out.trans (hJ.mono HW.out.size)) HD1.out
          · intro hne lo hi ph hran hp1 hp2 a w1 hJ hsz hs      -- 7: slot 25
            obtain ⟨rfl, rfl⟩ : 0 = lo ∧ 0 = hi := Prod.mk.inj (Option.some.inj hran)
            obtain rfl : ph = 0 := by omega
            obtain ⟨h0, _⟩ := hs
            have h0 : a.tmps.getD 0 undef = .slice (some ⟨b0, o0, none⟩) n c := h0
            refine op_run rfl rfl (v := .slice (some ⟨b0, o0, none⟩) n c) (w' := w1) ?_ rfl (Below.refl _ _)
            simp [execOp, Act.eval, h0, go_sem]
          · intro hne lo hi ph hran hp1 hp2 a w1 hJ hsz hs      -- 8: slot 26
            obtain ⟨rfl, rfl⟩ : 0 = lo ∧ 0 = hi := Prod.mk.inj (Option.some.inj hran)
            obtain rfl : ph = 0 := by omega
            obtain ⟨h0, _⟩ := hs
            have h0 : a.tmps.getD 5 undef = .int .i64 (j : Nat) := h0
            refine op_run rfl rfl (v := .int .i64 (j : Nat)) (w' := w1) ?_ rfl (Below.refl _ _)
            simp [execOp, Act.eval, h0, go_sem]
          · intro hne lo hi ph hran hp1 hp2 a w1 hJ hsz hs      -- 9: slot 27
            obtain ⟨rfl, rfl⟩ : 0 = lo ∧ 0 = hi := Prod.mk.inj (Option.some.inj hran)
            obtain rfl : ph = 0 := by omega
            obtain ⟨h0, h1, _⟩ := hs
            have h0 : a.tmps.getD 25 undef = .slice (some ⟨b0, o0, none⟩) n c := h0
            have h1 : a.tmps.getD 26 undef = .int .i64 (j : Nat) := h1
            have k0 : ((j : Nat) : Int) < (n : Int) := by omega
            refine op_run rfl rfl (v := .pointer (some ⟨b0, o0 + j * 4, none⟩)) (w' := w1) ?_ rfl (Below.refl _ _)
            simp [execOp, Act.eval, h0, h1, k0, go_sem]
          · intro hne lo hi ph hran hp1 hp2 a w1 hJ hsz hs      -- 10: slot 28
            obtain ⟨rfl, rfl⟩ : 0 = lo ∧ 0 = hi := Prod.mk.inj (Option.some.inj hran)
            obtain rfl : ph = 0 := by omega
            obtain ⟨h0, _⟩ := hs
            have h0 : a.tmps.getD 27 undef = .pointer (some ⟨b0, o0 + j * 4, none⟩) := h0
            refine op_run rfl rfl (v := .pointer (some ⟨b0, o0 + j * 4 + 1, none⟩)) (w' := w1) ?_ rfl (Below.refl _ _)
            simp [execOp, Act.eval, h0, go_sem]
          · intro hne lo hi ph hran hp1 hp2 a w1 hJ hsz hs      -- 11: slot 29
            obtain ⟨rfl, rfl⟩ : 0 = lo ∧ 0 = hi := Prod.mk.inj (Option.some.inj hran)
            obtain rfl : ph = 0 := by omega
            obtain ⟨h0, _⟩ := hs
            have h0 : a.tmps.getD 28 undef = .pointer (some ⟨b0, o0 + j * 4 + 1, none⟩) := h0
            obtain ⟨k0, k1, k2, k3⟩ := HC.out w1 hJ
            refine op_run rfl rfl (v := .int .i64 t.owner) (w' := w1) ?_ rfl (Below.refl _ _)
            simp [execOp, Act.eval, h0, k1, go_sem]
          · intro hne lo hi ph hran hp1 hp2 a w1 hJ hsz hs      -- 12: slot 30
            obtain ⟨rfl, rfl⟩ : 0 = lo ∧ 0 = hi := Prod.mk.inj (Option.some.inj hran)
            obtain rfl : ph = 0 := by omega
            obtain ⟨h0, h1, _⟩ := hs
            have m0 : (oV w D1).p w1 (a.tmps.getD 24 undef) := h0; obtain ⟨a0, p0, h0, r0⟩ := ov_row (n := N1) m0 HN1.out
            have h1 : a.tmps.getD 29 undef = .int .i64 t.owner := h1
            refine op_call rfl rfl (f := 33) (args := #[.slice a0 N1 p0, .int .i64 t.owner]) (by simp [execOp, Act.eval, resolve, h0, h1, go_sem]) ?_
            exact ov_of (rvar_any a0 N1 p0 D1 t.owner w1 r0 HN1.out (by omega) (by have := HTB.out; unfold Tg.B I64 at this; omega)) (HW.out.trans (hJ.mono HW.out.size)) HD2.out
          · intro hne lo hi ph hran hp1 hp2 a w1 hJ hsz hs      -- 13: slot 31
            obtain ⟨rfl, rfl⟩ : 0 = lo ∧ 0 = hi := Prod.mk.inj (Option.some.inj hran)
            obtain rfl : ph = 0 := by omega
            obtain ⟨h0, _⟩ := hs
            have h0 : a.tmps.getD 0 undef = .slice (some ⟨b0, o0, none⟩) n c := h0
            refine op_run rfl rfl (v := .slice (some ⟨b0, o0, none⟩) n c) (w' := w1) ?_ rfl (Below.refl _ _)
            simp [execOp, Act.eval, h0, go_sem]
          · intro hne lo hi ph hran hp1 hp2 a w1 hJ hsz hs      -- 14: slot 32
            obtain ⟨rfl, rfl⟩ : 0 = lo ∧ 0 = hi := Prod.mk.inj (Option.some.inj hran)
            obtain rfl : ph = 0 := by omega
            obtain ⟨h0, _⟩ := hs
            have h0 : a.tmps.getD 5 undef = .int .i64 (j : Nat) := h0
            refine op_run rfl rfl (v := .int .i64 (j : Nat)) (w' := w1) ?_ rfl (Below.refl _ _)
            simp [execOp, Act.eval, h0, go_sem]
          · intro hne lo hi ph hran hp1 hp2 a w1 hJ hsz hs      -- 15: slot 33
            obtain ⟨rfl, rfl⟩ : 0 = lo ∧ 0 = hi := Prod.mk.inj (Option.some.inj hran)
            obtain rfl : ph = 0 := by omega
            obtain ⟨h0, h1, _⟩ := hs
            have h0 : a.tmps.getD 31 undef = .slice (some ⟨b0, o0, none⟩) n c := h0
            have h1 : a.tmps.getD 32 undef = .int .i64 (j : Nat) := h1
            have k0 : ((j : Nat) : Int) < (n : Int) := by omega
            refine op_run rfl rfl (v := .pointer (some ⟨b0, o0 + j * 4, none⟩)) (w' := w1) ?_ rfl (Below.refl _ _)
            simp [execOp, Act.eval, h0, h1, k0, go_sem]
          · intro hne lo hi ph hran hp1 hp2 a w1 hJ hsz hs      -- 16: slot 34
            obtain ⟨rfl, rfl⟩ : 0 = lo ∧ 0 = hi := Prod.mk.inj (Option.some.inj hran)
            obtain rfl : ph = 0 := by omega
            obtain ⟨h0, _⟩ := hs
            have h0 : a.tmps.getD 33 undef = .pointer (some ⟨b0, o0 + j * 4, none⟩) := h0
            refine op_run rfl rfl (v := .pointer (some ⟨b0, o0 + j * 4 + 2, none⟩)) (w' := w1) ?_ rfl (Below.refl _ _)
            simp [execOp, Act.eval, h0, go_sem]
          · intro hne lo hi ph hran hp1 hp2 a w1 hJ hsz hs      -- 17: slot 35
            obtain ⟨rfl, rfl⟩ : 0 = lo ∧ 0 = hi := Prod.mk.inj (Option.some.inj hran)
            obtain rfl : ph = 0 := by omega
            obtain ⟨h0, _⟩ := hs
            have h0 : a.tmps.getD 34 undef = .pointer (some ⟨b0, o0 + j * 4 + 2, none⟩) := h0
            obtain ⟨k0, k1, k2, k3⟩ := HC.out w1 hJ
            refine op_run rfl rfl (v := .int .i64 t.heir) (w' := w1) ?_ rfl (Below.refl _ _)
            simp [execOp, Act.eval, h0, k2, go_sem]
          · intro hne lo hi ph hran hp1 hp2 a w1 hJ hsz hs      -- 18: slot 36
            obtain ⟨rfl, rfl⟩ : 0 = lo ∧ 0 = hi := Prod.mk.inj (Option.some.inj hran)
            obtain rfl : ph = 0 := by omega
            obtain ⟨h0, h1, _⟩ := hs
            have m0 : (oV w D2).p w1 (a.tmps.getD 30 undef) := h0; obtain ⟨a0, p0, h0, r0⟩ := ov_row (n := N2) m0 HN2.out
            have h1 : a.tmps.getD 35 undef = .int .i64 t.heir := h1
            refine op_call rfl rfl (f := 33) (args := #[.slice a0 N2 p0, .int .i64 t.heir]) (by simp [execOp, Act.eval, resolve, h0, h1, go_sem]) ?_
            exact ov_of (rvar_any a0 N2 p0 D2 t.heir w1 r0 HN2.out (by omega) (by have := HTB.out; unfold Tg.B I64 at this; omega)) (HW.out.trans (hJ.mono HW.out.size)) HD3.out
          · intro hne lo hi ph hran hp1 hp2 a w1 hJ hsz hs      -- 19: slot 37
            obtain ⟨rfl, rfl⟩ : 0 = lo ∧ 0 = hi := Prod.mk.inj (Option.some.inj hran)
            obtain rfl : ph = 0 := by omega
            obtain ⟨h0, _⟩ := hs
            have h0 : a.tmps.getD 0 undef = .slice (some ⟨b0, o0, none⟩) n c := h0
            refine op_run rfl rfl (v := .slice (some ⟨b0, o0, none⟩) n c) (w' := w1) ?_ rfl (Below.refl _ _)
            simp [execOp, Act.eval, h0, go_sem]
          · intro hne lo hi ph hran hp1 hp2 a w1 hJ hsz hs      -- 20: slot 38
            obtain ⟨rfl, rfl⟩ : 0 = lo ∧ 0 = hi := Prod.mk.inj (Option.some.inj hran)
            obtain rfl : ph = 0 := by omega
            obtain ⟨h0, _⟩ := hs
            have h0 : a.tmps.getD 5 undef = .int .i64 (j : Nat) := h0
            refine op_run rfl rfl (v := .int .i64 (j : Nat)) (w' := w1) ?_ rfl (Below.refl _ _)
            simp [execOp, Act.eval, h0, go_sem]
          · intro hne lo hi ph hran hp1 hp2 a w1 hJ hsz hs      -- 21: slot 39
            obtain ⟨rfl, rfl⟩ : 0 = lo ∧ 0 = hi := Prod.mk.inj (Option.some.inj hran)
            obtain rfl : ph = 0 := by omega
            obtain ⟨h0, h1, _⟩ := hs
            have h0 : a.tmps.getD 37 undef = .slice (some ⟨b0, o0, none⟩) n c := h0
            have h1 : a.tmps.getD 38 undef = .int .i64 (j : Nat) := h1
            have k0 : ((j : Nat) : Int) < (n : Int) := by omega
            refine op_run rfl rfl (v := .pointer (some ⟨b0, o0 + j * 4, none⟩)) (w' := w1) ?_ rfl (Below.refl _ _)
            simp [execOp, Act.eval, h0, h1, k0, go_sem]
          · intro hne lo hi ph hran hp1 hp2 a w1 hJ hsz hs      -- 22: slot 40
            obtain ⟨rfl, rfl⟩ : 0 = lo ∧ 0 = hi := Prod.mk.inj (Option.some.inj hran)
            obtain rfl : ph = 0 := by omega
            obtain ⟨h0, _⟩ := hs
            have h0 : a.tmps.getD 39 undef = .pointer (some ⟨b0, o0 + j * 4, none⟩) := h0
            refine op_run rfl rfl (v := .pointer (some ⟨b0, o0 + j * 4 + 3, none⟩)) (w' := w1) ?_ rfl (Below.refl _ _)
            simp [execOp, Act.eval, h0, go_sem]
          · intro hne lo hi ph hran hp1 hp2 a w1 hJ hsz hs      -- 23: slot 41
            obtain ⟨rfl, rfl⟩ : 0 = lo ∧ 0 = hi := Prod.mk.inj (Option.some.inj hran)
            obtain rfl : ph = 0 := by omega
            obtain ⟨h0, _⟩ := hs
            have h0 : a.tmps.getD 40 undef = .pointer (some ⟨b0, o0 + j * 4 + 3, none⟩) := h0
            obtain ⟨k0, k1, k2, k3⟩ := HC.out w1 hJ
            refine op_run rfl rfl (v := .int .i64 t.at') (w' := w1) ?_ rfl (Below.refl _ _)
            simp [execOp, Act.eval, h0, k3, go_sem]
          · intro hne lo hi ph hran hp1 hp2 a w1 hJ hsz hs      -- 24: slot 42
            obtain ⟨rfl, rfl⟩ : 0 = lo ∧ 0 = hi := Prod.mk.inj (Option.some.inj hran)
            obtain rfl : ph = 0 := by omega
            obtain ⟨h0, h1, _⟩ := hs
            have m0 : (oV w D3).p w1 (a.tmps.getD 36 undef) := h0; obtain ⟨a0, p0, h0, r0⟩ := ov_row (n := N3) m0 HN3.out
            have h1 : a.tmps.getD 41 undef = .int .i64 t.at' := h1
            refine op_call rfl rfl (f := 33) (args := #[.slice a0 N3 p0, .int .i64 t.at']) (by simp [execOp, Act.eval, resolve, h0, h1, go_sem]) ?_
            exact ov_of (rvar_any a0 N3 p0 D3 t.at' w1 r0 HN3.out (by omega) (by have := HTB.out; unfold Tg.B I64 at this; omega)) (HW.out.trans (hJ.mono HW.out.size)) HD4.out
          · intro hne lo hi ph hran hp1 hp2 a w1 hJ hsz hs      -- 25: slot 4
            obtain ⟨rfl, rfl⟩ : 0 = lo ∧ 0 = hi := Prod.mk.inj (Option.some.inj hran)
            obtain rfl : ph = 0 := by omega
            obtain ⟨h0, _⟩ := hs
            have m0 : (oV w D4).p w1 (a.tmps.getD 42 undef) := h0
            exact op_run rfl rfl (v := a.tmps.getD 42 undef) (w' := w1) (by simp [execOp, Act.eval, go_sem]) m0 (Below.refl _ _)
        · show ∀ ph, ph < 0 → _
          iterate 0 (refine fls ?_ ?_)
          · exact fl0
        intro f w1 hJ hv
        have e4 : (oV w D4).p w1 (f 4) := hv 25 _ 4 rfl rfl
        clear hv
        try simp only [Exit.then]
        simp only [putAll, List.foldl_cons, List.foldl_nil, Option.getD_some, Act.put, List.setIfInBounds_toArray, List.set_cons_succ, List.set_cons_zero]
        generalize f 4 = v5 at e4 ⊢
        have o6 : Own w w1 v5 D4 := e4
        clear e4 hJ
        -- END 7
        rw [HDD.out] at o6
        have HO6 := Lib.hid o6
        clear o6
        go_wp2_with fail
        go_roundw
        case rel => exact ⟨j + 1, by go_num, by omega, HO6⟩
        case measure => simp [intOf]; omega
      · have : j = n := by omega
        subst this
        have HO5 := hO
        rw [headC_all HN.out] at HO5
        clear hO
        go_wp2_with fail
        go_ret2
        exact ⟨_, rfl, HO5.out⟩
end Go.Proofs.Ytpeamfndanbhiaa
