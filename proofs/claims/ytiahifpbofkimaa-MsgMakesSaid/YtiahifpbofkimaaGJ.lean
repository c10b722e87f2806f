/- Chains: their bytes. | Chains: what bytes are: the program's own. | Chains: what bytes are: the document's own. | Chains: a chain that grew by a row of numbers. -/
import Derived.Test.YtiahifpbofkimaaChB
import Derived.Test.YtiahifpbofkimaaChF
import Derived.Test.YtiahifpbofkimaaGD
import Derived.Test.YtiahifpbofkimaaGC
import Derived.Test.YtiahifpbofkimaaGE
import Derived.Test.YtiahifpbofkimaaNmb
import Derived.Deep.RegionHeld3
import Derived.BigQuiet
namespace Go.Proofs.Ytiahifpbofkimaa
open Go.RowKit Go.Proofs
set_option linter.unusedVariables false
set_option linter.unusedSimpArgs false

/-! ### a tag's numbers, one behind the other -/
theorem run_ix4 (W : World) (a b c d : Int) (k : Nat) (v : Int) (h : [a, b, c, d][k]? = some v) : (Instr.index 111 (.agg #[.int .i64 a, .int .i64 b, .int .i64 c, .int .i64 d]) (.int .i64 (k : Nat))).run Try.prog W = .ok (.int .i64 v) W := by
  have u3 := Try.underlying3
  have a3 := Try.isAgg3
  have z3 := Try.sizeOf3
  match k, h with
  | 0, h => simp at h; subst h; simp [Instr.index, asIntOf, run_underlying Try.underlying111, go_sem, a3, z3]
  | 1, h => simp at h; subst h; simp [Instr.index, asIntOf, run_underlying Try.underlying111, go_sem, a3, z3]
  | 2, h => simp at h; subst h; simp [Instr.index, asIntOf, run_underlying Try.underlying111, go_sem, a3, z3]
  | 3, h => simp at h; subst h; simp [Instr.index, asIntOf, run_underlying Try.underlying111, go_sem, a3, z3]
  | k + 4, h => simp at h
def tagN (t : Tg) : Nat → Int
  | 0 => t.id
  | 1 => t.owner
  | 2 => t.heir
  | _ => t.at'
def tagP (t : Tg) : Nat → List UInt8
  | 0 => []
  | k + 1 => tagP t k ++ varL (tagN t k).toNat
theorem tagP_four (t : Tg) : tagP t 4 = tagL t := by simp [tagP, tagN, tagL]
theorem tagP_le (t : Tg) : ∀ k, k ≤ 4 → (tagP t k).length ≤ (tagL t).length := by
  intro k hk
  rw [← tagP_four]
  have hs : ∀ i, (tagP t i).length ≤ (tagP t (i + 1)).length := fun i => by simp [tagP]
  have h0 := hs 0; have h1 := hs 1; have h2 := hs 2; have h3 := hs 3
  match k, hk with
  | 0, _ => simp [tagP]
  | 1, _ => simp only [Nat.zero_add, Nat.reduceAdd] at *; omega
  | 2, _ => simp only [Nat.zero_add, Nat.reduceAdd] at *; omega
  | 3, _ => simp only [Nat.zero_add, Nat.reduceAdd] at *; omega
  | 4, _ => exact Nat.le_refl _
/-- What is laid when j tags are, and k numbers of the next one. -/
def partC (ts : List Tg) (j : Nat) (t : Tg) (k : Nat) : List UInt8 := varL ts.length ++ rowC (ts.take j) ++ tagP t k
theorem partC_next (ts : List Tg) (j : Nat) (t : Tg) (k : Nat) : partC ts j t k ++ varL (tagN t k).toNat = partC ts j t (k + 1) := by unfold partC; simp [tagP]
theorem partC_len {ts : List Tg} (h : ChOk ts) {j : Nat} {t : Tg} (ht : ts[j]? = some t) {k : Nat} (hk : k ≤ 4) : (partC ts j t k).length ≤ 417 := by
  have h1 := endC_succ ht
  have h2 := endC_le ts (j + 1)
  have h3 := (putC_len h).2
  have h4 := tagP_le t k hk
  have h5 : endC ts j = (varL ts.length).length + (rowC (ts.take j)).length := rfl
  unfold partC
  simp only [List.length_append]
  omega
/-- What is laid when j tags are. -/
def headC (ts : List Tg) (j : Nat) : List UInt8 := varL ts.length ++ rowC (ts.take j)
theorem headC_part (ts : List Tg) (j : Nat) (t : Tg) : headC ts j = partC ts j t 0 := by unfold headC partC; simp [tagP]
theorem part_headC {ts : List Tg} {j : Nat} {t : Tg} (ht : ts[j]? = some t) : partC ts j t 4 = headC ts (j + 1) := by
  unfold partC headC; rw [tagP_four, rowC_snoc ht, List.append_assoc]
theorem headC_zero (ts : List Tg) : headC ts 0 = varL ts.length := by unfold headC; simp [rowC]
theorem headC_all {ts : List Tg} {n : Nat} (h : ts.length = n) : headC ts n = putC ts := by unfold headC putC; rw [← h, List.take_length]
theorem own_nilB {w w1 : World} (hb : Below w.heap.size w w1) : Own w w1 (.slice none 0 0) [] := ⟨World.ownsRow_nil _ _ _ _, hb⟩

set_option maxRecDepth 100000 in
set_option maxHeartbeats 6400000 in
theorem chput_any (ad : Option Addr) (n c : Nat) (ts : List Tg) (w : World) (hr : TRow w ad c ts) (hn : ts.length = n) :
    Calls Try.prog 57 #[.slice ad n c] w fun e w' => ∃ v, e = .returned (.tuple #[v, .int .i64 (putCh ts).2]) ∧ Own w w' v (putCh ts).1 := by
  have HK := Lib.hid (chright_any ad n c ts w hr hn)
  have HR := Lib.hid hr
  have HN := Lib.hid hn
  have hc1 := hr.1
  rw [hn] at hc1
  have hcm : c ≤ 9223372036854775807 := by have := hr.2.1; unfold maxLen at this; omega
  clear hr hn
  cases hx : rightC ts with
  | false =>
    rw [hx] at HK
    rw [putCh_no hx]
    clear hx
    go_enter Try.func57, Try.ntmps57
    go_wp2_with fail
    refine HK.out.mono ?_
    rintro e w1 ⟨rfl, hb1⟩
    go_wp2_with fail
    go_ret2
    exact ⟨_, rfl, own_nilB hb1⟩
  | true =>
    rw [hx] at HK
    rw [putCh_yes hx]
    have HX := Lib.hid (rightC_iff.1 hx)
    have hn32 : 1 ≤ n ∧ n ≤ 32 := by have h1 := HX.out.1; have h2 := HX.out.2.1; rw [HN.out] at h1 h2; exact ⟨h1, h2⟩
    have HV : Hid (varL ((n : Int).toNat) = headC ts 0) := Lib.hid (by rw [headC_zero, HN.out, Int.toNat_natCast])
    clear hx
    go_enter Try.func57, Try.ntmps57
    go_wp2_with fail
    refine HK.out.mono ?_
    rintro e w1 ⟨rfl, hb1⟩
    have HB1 := Lib.hid hb1
    clear hb1
    go_wp2_with fail
    refine (var_any none 0 0 [] n w1 (Row.none w1) rfl (by omega) (by omega)).mono ?_
    rw [List.nil_append, HV.out]
    rintro e w2 ⟨v2, rfl, o2⟩
    have HO : Hid (Own w w2 v2 (headC ts 0)) := Lib.hid (o2.back HB1.out)
    clear o2
    go_wp2_with fail
    go_loopw [4, 6, 8, 17] (fun v _ _ i wr => ∃ j : Nat, i = .int .i64 j ∧ j ≤ n ∧ Hid (Own w wr v (headC ts j))) (fun _ _ _ i _ => n - (intOf i).toNat)
    case atStart => exact ⟨0, rfl, by omega, HO⟩
    case round =>
      obtain ⟨j, rfl, hj, hO⟩ := hrel
      by_cases hjn : (j : Int) < n
      · obtain ⟨t, ht⟩ : ∃ t, ts[j]? = some t := ⟨ts[j]'(by have := HN.out; omega), List.getElem?_eq_getElem _⟩
        obtain ⟨b1, o1, rfl, p0, p1, p2, p3⟩ := (HR.out.later hO.out.below).at ht
        have HT := Lib.hid ht
        have HTB := Lib.hid (HR.out.b ht)
        clear ht
        have hba : Below wr.heap.size wr (wr.alloc (.cells #[.int .i64 t.id, .int .i64 t.owner, .int .i64 t.heir, .int .i64 t.at'] 85)) := (Below.refl _ _).alloc (Nat.le_refl _) _
        have HX0 := Lib.hid (RecAt.new wr #[.int .i64 t.id, .int .i64 t.owner, .int .i64 t.heir, .int .i64 t.at'] 85)
        have HO2 := Lib.hid (hO.out.later hba)
        rw [headC_part ts j t] at HO2
        clear hba
        go_upto_region 7 with fail
        clear p0 p1 p2 p3 hO
        generalize (wr.alloc (.cells #[.int .i64 t.id, .int .i64 t.owner, .int .i64 t.heir, .int .i64 t.at'] 85)) = w3 at *
        generalize wr.heap.size = p4 at *
        obtain ⟨x0, x1, x2, x3⟩ := HX0.out.c4
        go_wp2_with fail
        clear x0 x1 x2 x3 HX0
        go_loopw [4, 8, 30] (fun v _ i wr => (i = .int .i64 0 ∧ Hid (Own w wr v (partC ts j t 0))) ∨ (i = .int .i64 1 ∧ Hid (Own w wr v (partC ts j t 1))) ∨ (i = .int .i64 2 ∧ Hid (Own w wr v (partC ts j t 2))) ∨ (i = .int .i64 3 ∧ Hid (Own w wr v (partC ts j t 3))) ∨ (i = .int .i64 4 ∧ Hid (Own w wr v (partC ts j t 4)))) (fun _ _ i _ => 4 - (intOf i).toNat)
        case atStart => exact .inl ⟨rfl, HO2⟩
        case round =>
          rcases hrel with ⟨rfl, hO⟩ | ⟨rfl, hO⟩ | ⟨rfl, hO⟩ | ⟨rfl, hO⟩ | ⟨rfl, hO⟩
          · obtain ⟨N, hNl⟩ : ∃ N, (partC ts j t 0).length = N := ⟨_, rfl⟩
            obtain ⟨a4, c4, rfl, r4⟩ := hO.out.row_n hNl
            have hN2 : N ≤ 417 := by rw [← hNl]; exact partC_len HX.out HT.out (by omega)
            have hix : ∀ W, (Instr.index 111 (.agg #[.int .i64 t.id, .int .i64 t.owner, .int .i64 t.heir, .int .i64 t.at']) (.int .i64 0)).run Try.prog W = .ok (.int .i64 t.id) W := fun W => run_ix4 W _ _ _ _ 0 _ rfl
            have HK2 := Lib.hid (var_any a4 N c4 _ t.id _ r4 hNl (by omega) (by have := HTB.out; unfold Tg.B I64 at this; omega))
            clear hNl r4
            go_wp2_with fail
            refine HK2.out.mono ?_
            rintro e w5 ⟨v5, rfl, o5⟩
            have HO5 : Hid (Own w w5 v5 (partC ts j t 1)) := Lib.hid (by rw [← partC_next]; exact o5.back hO.out.below)
            clear o5
            go_wp2_with fail
            go_roundw
            case rel => exact .inr (.inl ⟨rfl, HO5⟩)
            case measure => simp [intOf]
          · obtain ⟨N, hNl⟩ : ∃ N, (partC ts j t 1).length = N := ⟨_, rfl⟩
            obtain ⟨a4, c4, rfl, r4⟩ := hO.out.row_n hNl
            have hN2 : N ≤ 417 := by rw [← hNl]; exact partC_len HX.out HT.out (by omega)
            have hix : ∀ W, (Instr.index 111 (.agg #[.int .i64 t.id, .int .i64 t.owner, .int .i64 t.heir, .int .i64 t.at']) (.int .i64 1)).run Try.prog W = .ok (.int .i64 t.owner) W := fun W => run_ix4 W _ _ _ _ 1 _ rfl
            have HK2 := Lib.hid (var_any a4 N c4 _ t.owner _ r4 hNl (by omega) (by have := HTB.out; unfold Tg.B I64 at this; omega))
            clear hNl r4
            go_wp2_with fail
            refine HK2.out.mono ?_
            rintro e w5 ⟨v5, rfl, o5⟩
            have HO5 : Hid (Own w w5 v5 (partC ts j t 2)) := Lib.hid (by rw [← partC_next]; exact o5.back hO.out.below)
            clear o5
            go_wp2_with fail
            go_roundw
            case rel => exact .inr (.inr (.inl ⟨rfl, HO5⟩))
            case measure => simp [intOf]
          · obtain ⟨N, hNl⟩ : ∃ N, (partC ts j t 2).length = N := ⟨_, rfl⟩
            obtain ⟨a4, c4, rfl, r4⟩ := hO.out.row_n hNl
            have hN2 : N ≤ 417 := by rw [← hNl]; exact partC_len HX.out HT.out (by omega)
            have hix : ∀ W, (Instr.index 111 (.agg #[.int .i64 t.id, .int .i64 t.owner, .int .i64 t.heir, .int .i64 t.at']) (.int .i64 2)).run Try.prog W = .ok (.int .i64 t.heir) W := fun W => run_ix4 W _ _ _ _ 2 _ rfl
            have HK2 := Lib.hid (var_any a4 N c4 _ t.heir _ r4 hNl (by omega) (by have := HTB.out; unfold Tg.B I64 at this; omega))
            clear hNl r4
            go_wp2_with fail
            refine HK2.out.mono ?_
            rintro e w5 ⟨v5, rfl, o5⟩
            have HO5 : Hid (Own w w5 v5 (partC ts j t 3)) := Lib.hid (by rw [← partC_next]; exact o5.back hO.out.below)
            clear o5
            go_wp2_with fail
            go_roundw
            case rel => exact .inr (.inr (.inr (.inl ⟨rfl, HO5⟩)))
            case measure => simp [intOf]
          · obtain ⟨N, hNl⟩ : ∃ N, (partC ts j t 3).length = N := ⟨_, rfl⟩
            obtain ⟨a4, c4, rfl, r4⟩ := hO.out.row_n hNl
            have hN2 : N ≤ 417 := by rw [← hNl]; exact partC_len HX.out HT.out (by omega)
            have hix : ∀ W, (Instr.index 111 (.agg #[.int .i64 t.id, .int .i64 t.owner, .int .i64 t.heir, .int .i64 t.at']) (.int .i64 3)).run Try.prog W = .ok (.int .i64 t.at') W := fun W => run_ix4 W _ _ _ _ 3 _ rfl
            have HK2 := Lib.hid (var_any a4 N c4 _ t.at' _ r4 hNl (by omega) (by have := HTB.out; unfold Tg.B I64 at this; omega))
            clear hNl r4
            go_wp2_with fail
            refine HK2.out.mono ?_
            rintro e w5 ⟨v5, rfl, o5⟩
            have HO5 : Hid (Own w w5 v5 (partC ts j t 4)) := Lib.hid (by rw [← partC_next]; exact o5.back hO.out.below)
            clear o5
            go_wp2_with fail
            go_roundw
            case rel => exact .inr (.inr (.inr (.inr ⟨rfl, HO5⟩)))
            case measure => simp [intOf]
          · have HO5 := hO
            rw [part_headC HT.out] at HO5
            clear hO
            go_wp2_with fail
            go_roundw
            case rel => exact ⟨j + 1, by go_num, by omega, HO5⟩
            case measure => simp [intOf]; omega
      · have : j = n := by omega
        subst this
        have HO5 := hO
        rw [headC_all HN.out] at HO5
        clear hO
        go_wp2_with fail
        go_ret2
        exact ⟨_, rfl, HO5.out⟩

set_option maxRecDepth 100000 in
set_option maxHeartbeats 6400000 in
theorem chrput_any (ad : Option Addr) (n c : Nat) (ts : List Tg) (w : World) (hr : TRow w ad c ts) (hn : ts.length = n) :
    Calls Try.prog 27 #[.slice ad n c] w fun e w' => ∃ v, e = .returned (.tuple #[v, .int .i64 (putCh ts).2]) ∧ Own w w' v (putCh ts).1 := by
  have HK := Lib.hid (chrright_any ad n c ts w hr hn)
  have HR := Lib.hid hr
  have HN := Lib.hid hn
  have hc1 := hr.1
  rw [hn] at hc1
  have hcm : c ≤ 9223372036854775807 := by have := hr.2.1; unfold maxLen at this; omega
  clear hr hn
  cases hx : rightC ts with
  | false =>
    rw [hx] at HK
    rw [putCh_no hx]
    clear hx
    go_enter Try.func27, Try.ntmps27
    go_wp2_with fail
    refine HK.out.mono ?_
    rintro e w1 ⟨rfl, hb1⟩
    go_wp2_with fail
    go_ret2
    exact ⟨_, rfl, own_nilB hb1⟩
  | true =>
    rw [hx] at HK
    rw [putCh_yes hx]
    have HX := Lib.hid (rightC_iff.1 hx)
    have hn32 : 1 ≤ n ∧ n ≤ 32 := by have h1 := HX.out.1; have h2 := HX.out.2.1; rw [HN.out] at h1 h2; exact ⟨h1, h2⟩
    have HV : Hid (varL ((n : Int).toNat) = headC ts 0) := Lib.hid (by rw [headC_zero, HN.out, Int.toNat_natCast])
    clear hx
    go_enter Try.func27, Try.ntmps27
    go_wp2_with fail
    refine HK.out.mono ?_
    rintro e w1 ⟨rfl, hb1⟩
    have HB1 := Lib.hid hb1
    clear hb1
    go_wp2_with fail
    refine (rvar_any none 0 0 [] n w1 (Row.none w1) rfl (by omega) (by omega)).mono ?_
    rw [List.nil_append, HV.out]
    rintro e w2 ⟨v2, rfl, o2⟩
    have HO : Hid (Own w w2 v2 (headC ts 0)) := Lib.hid (o2.back HB1.out)
    clear o2
    go_wp2_with fail
    go_loopw [4, 5] (fun v i wr => ∃ j : Nat, i = .int .i64 j ∧ j ≤ n ∧ Hid (Own w wr v (headC ts j))) (fun _ i _ => n - (intOf i).toNat)
    case atStart => exact ⟨0, rfl, by omega, HO⟩
    case round =>
      obtain ⟨j, rfl, hj, hO⟩ := hrel
      by_cases hjn : (j : Int) < n
      · obtain ⟨t, ht⟩ : ∃ t, ts[j]? = some t := ⟨ts[j]'(by have := HN.out; omega), List.getElem?_eq_getElem _⟩
        have HW := Lib.hid hO.out.below
        obtain ⟨b0, o0, rfl, _, _, _, _⟩ := (HR.out.later HW.out).at ht
        have HT := Lib.hid ht
        have HTB := Lib.hid (HR.out.b ht)
        clear ht
        have HC : Hid (∀ W, Below wr.heap.size wr W → W.cell? ⟨b0, o0 + j * 4, none⟩ = some (.int .i64 t.id) ∧ W.cell? ⟨b0, o0 + j * 4 + 1, none⟩ = some (.int .i64 t.owner) ∧ W.cell? ⟨b0, o0 + j * 4 + 2, none⟩ = some (.int .i64 t.heir) ∧ W.cell? ⟨b0, o0 + j * 4 + 3, none⟩ = some (.int .i64 t.at')) := Lib.hid (fun W h => by
          obtain ⟨b, o, e, q⟩ := ((HR.out.later HW.out).later h).at HT.out
          cases e
          exact q)
        obtain ⟨N0, hN0⟩ : ∃ N, (partC ts j t 0).length = N := ⟨_, rfl⟩
        obtain ⟨N1, hN1⟩ : ∃ N, (partC ts j t 1).length = N := ⟨_, rfl⟩
        obtain ⟨N2, hN2⟩ : ∃ N, (partC ts j t 2).length = N := ⟨_, rfl⟩
        obtain ⟨N3, hN3⟩ : ∃ N, (partC ts j t 3).length = N := ⟨_, rfl⟩
        have hl0 : N0 ≤ 417 := by rw [← hN0]; exact partC_len HX.out HT.out (by omega)
        have hl1 : N1 ≤ 417 := by rw [← hN1]; exact partC_len HX.out HT.out (by omega)
        have hl2 : N2 ≤ 417 := by rw [← hN2]; exact partC_len HX.out HT.out (by omega)
        have hl3 : N3 ≤ 417 := by rw [← hN3]; exact partC_len HX.out HT.out (by omega)
        have HO0 := hO
        rw [headC_part ts j t] at HO0
        obtain ⟨a0, q0, rfl, r0⟩ := HO0.out.row_n hN0
        have HO := Lib.hid r0
        obtain ⟨B, hB⟩ : ∃ B, partC ts j t 0 = B := ⟨_, rfl⟩
        obtain ⟨D1, hD1⟩ : ∃ B, partC ts j t 1 = B := ⟨_, rfl⟩
        obtain ⟨D2, hD2⟩ : ∃ B, partC ts j t 2 = B := ⟨_, rfl⟩
        obtain ⟨D3, hD3⟩ : ∃ B, partC ts j t 3 = B := ⟨_, rfl⟩
        obtain ⟨D4, hD4⟩ : ∃ B, partC ts j t 4 = B := ⟨_, rfl⟩
        have HD1 : Hid (B ++ varL t.id.toNat = D1) := Lib.hid (by rw [← hB, ← hD1]; exact partC_next ts j t 0)
        have HD2 : Hid (D1 ++ varL t.owner.toNat = D2) := Lib.hid (by rw [← hD1, ← hD2]; exact partC_next ts j t 1)
        have HD3 : Hid (D2 ++ varL t.heir.toNat = D3) := Lib.hid (by rw [← hD2, ← hD3]; exact partC_next ts j t 2)
        have HD4 : Hid (D3 ++ varL t.at'.toNat = D4) := Lib.hid (by rw [← hD3, ← hD4]; exact partC_next ts j t 3)
        have HDD : Hid (D4 = headC ts (j + 1)) := Lib.hid (by rw [← hD4, part_headC HT.out])
        rw [hB] at hN0 HO
        rw [hD1] at hN1
        rw [hD2] at hN2
        rw [hD3] at hN3
        have HN0 := Lib.hid hN0
        have HN1 := Lib.hid hN1
        have HN2 := Lib.hid hN2
        have HN3 := Lib.hid hN3
        clear hB hD1 hD2 hD3 hD4 hN0 hN1 hN2 hN3 r0 HO0 hO
        go_upto_region 7 with fail
        -- REG 7
        refine wp_region_ptab (L := fun ph => match ph with | _ => [cV (.slice a0 N0 q0), cV (.slice (some ⟨b0, o0, none⟩) n c), cV (.int .i64 (j : Nat)), cV (.pointer (some ⟨b0, o0 + j * 4, none⟩)), cV (.pointer (some ⟨b0, o0 + j * 4, none⟩)), cV (.int .i64 t.id), oV w D1, cV (.slice (some ⟨b0, o0, none⟩) n c), cV (.int .i64 (j : Nat)), cV (.pointer (some ⟨b0, o0 + j * 4, none⟩)), cV (.pointer (some ⟨b0, o0 + j * 4 + 1, none⟩)), cV (.int .i64 t.owner), oV w D2, cV (.slice (some ⟨b0, o0, none⟩) n c), cV (.int .i64 (j : Nat)), cV (.pointer (some ⟨b0, o0 + j * 4, none⟩)), cV (.pointer (some ⟨b0, o0 + j * 4 + 2, none⟩)), cV (.int .i64 t.heir), oV w D3, cV (.slice (some ⟨b0, o0, none⟩) n c), cV (.int .i64 (j : Nat)), cV (.pointer (some ⟨b0, o0 + j * 4, none⟩)), cV (.pointer (some ⟨b0, o0 + j * 4 + 3, none⟩)), cV (.int .i64 t.at'), oV w D4, oV w D4]) (fun _ wq => Below wr.heap.size wr wq) [] [(0, 0), (0, 0), (0, 0), (0, 0), (0, 0), (0, 0), (0, 0), (0, 0), (0, 0), (0, 0), (0, 0), (0, 0), (0, 0), (0, 0), (0, 0), (0, 0), (0, 0), (0, 0), (0, 0), (0, 0), (0, 0), (0, 0), (0, 0), (0, 0), (0, 0), (0, 0)] [[(4, none)], [(0, none)], [(5, none)], [(19, some 1), (20, some 2)], [(21, some 3)], [(22, some 4)], [(18, some 0), (23, some 5)], [(0, none)], [(5, none)], [(25, some 7), (26, some 8)], [(27, some 9)], [(28, some 10)], [(24, some 6), (29, some 11)], [(0, none)], [(5, none)], [(31, some 13), (32, some 14)], [(33, some 15)], [(34, some 16)], [(30, some 12), (35, some 17)], [(0, none)], [(5, none)], [(37, some 19), (38, some 20)], [(39, some 21)], [(40, some 22)], [(36, some 18), (41, some 23)], [(42, some 24)]] 26 0 44 (by kernel_rfl) rfl rfl rfl (by kernel_rfl) (by kernel_rfl) (by decide) (by kernel_rfl) ?_ ?_ ?_ ?_ ?_
        · exact fun ph w1 w2 h hb => h.trans (hb.mono h.size)
        · exact Below.refl _ _
        · show ∀ i, i < 26 → _
          iterate 26 (refine fls ?_ ?_)
          · exact fl0
          · intro hne lo hi ph hran hp1 hp2 a w1 hJ hsz hs      -- 0: slot 18
            obtain ⟨rfl, rfl⟩ : 0 = lo ∧ 0 = hi := Prod.mk.inj (Option.some.inj hran)
            obtain rfl : ph = 0 := by omega
            obtain ⟨h0, _⟩ := hs
            have h0 : a.tmps.getD 4 undef = .slice a0 N0 q0 := h0
            refine op_run rfl rfl (v := .slice a0 N0 q0) (w' := w1) ?_ rfl (Below.refl _ _)
            simp [execOp, Act.eval, h0, go_sem]
          · intro hne lo hi ph hran hp1 hp2 a w1 hJ hsz hs      -- 1: slot 19
            obtain ⟨rfl, rfl⟩ : 0 = lo ∧ 0 = hi := Prod.mk.inj (Option.some.inj hran)
            obtain rfl : ph = 0 := by omega
            obtain ⟨h0, _⟩ := hs
            have h0 : a.tmps.getD 0 undef = .slice (some ⟨b0, o0, none⟩) n c := h0
            refine op_run rfl rfl (v := .slice (some ⟨b0, o0, none⟩) n c) (w' := w1) ?_ rfl (Below.refl _ _)
            simp [execOp, Act.eval, h0, go_sem]
          · intro hne lo hi ph hran hp1 hp2 a w1 hJ hsz hs      -- 2: slot 20
            obtain ⟨rfl, rfl⟩ : 0 = lo ∧ 0 = hi := Prod.mk.inj (Option.some.inj hran)
            obtain rfl : ph = 0 := by omega
            obtain ⟨h0, _⟩ := hs
            have h0 : a.tmps.getD 5 undef = .int .i64 (j : Nat) := h0
            refine op_run rfl rfl (v := .int .i64 (j : Nat)) (w' := w1) ?_ rfl (Below.refl _ _)
            simp [execOp, Act.eval, h0, go_sem]
          · intro hne lo hi ph hran hp1 hp2 a w1 hJ hsz hs      -- 3: slot 21
            obtain ⟨rfl, rfl⟩ : 0 = lo ∧ 0 = hi := Prod.mk.inj (Option.some.inj hran)
            obtain rfl : ph = 0 := by omega
            obtain ⟨h0, h1, _⟩ := hs
            have h0 : a.tmps.getD 19 undef = .slice (some ⟨b0, o0, none⟩) n c := h0
            have h1 : a.tmps.getD 20 undef = .int .i64 (j : Nat) := h1
            have k0 : ((j : Nat) : Int) < (n : Int) := by omega
            refine op_run rfl rfl (v := .pointer (some ⟨b0, o0 + j * 4, none⟩)) (w' := w1) ?_ rfl (Below.refl _ _)
            simp [execOp, Act.eval, h0, h1, k0, go_sem]
          · intro hne lo hi ph hran hp1 hp2 a w1 hJ hsz hs      -- 4: slot 22
            obtain ⟨rfl, rfl⟩ : 0 = lo ∧ 0 = hi := Prod.mk.inj (Option.some.inj hran)
            obtain rfl : ph = 0 := by omega
            obtain ⟨h0, _⟩ := hs
            have h0 : a.tmps.getD 21 undef = .pointer (some ⟨b0, o0 + j * 4, none⟩) := h0
            refine op_run rfl rfl (v := .pointer (some ⟨b0, o0 + j * 4, none⟩)) (w' := w1) ?_ rfl (Below.refl _ _)
            simp [execOp, Act.eval, h0, go_sem]
          · intro hne lo hi ph hran hp1 hp2 a w1 hJ hsz hs      -- 5: slot 23
            obtain ⟨rfl, rfl⟩ : 0 = lo ∧ 0 = hi := Prod.mk.inj (Option.some.inj hran)
            obtain rfl : ph = 0 := by omega
            obtain ⟨h0, _⟩ := hs
            have h0 : a.tmps.getD 22 undef = .pointer (some ⟨b0, o0 + j * 4, none⟩) := h0
            obtain ⟨k0, k1, k2, k3⟩ := HC.out w1 hJ
            refine op_run rfl rfl (v := .int .i64 t.id) (w' := w1) ?_ rfl (Below.refl _ _)
            simp [execOp, Act.eval, h0, k0, go_sem]
          · intro hne lo hi ph hran hp1 hp2 a w1 hJ hsz hs      -- 6: slot 24
            obtain ⟨rfl, rfl⟩ : 0 = lo ∧ 0 = hi := Prod.mk.inj (Option.some.inj hran)
            obtain rfl : ph = 0 := by omega
            obtain ⟨h0, h1, _⟩ := hs
            have h0 : a.tmps.getD 18 undef = .slice a0 N0 q0 := h0
            have h1 : a.tmps.getD 23 undef = .int .i64 t.id := h1
            refine op_call rfl rfl (f := 26) (args := #[.slice a0 N0 q0, .int .i64 t.id]) (by simp [execOp, Act.eval, resolve, h0, h1, go_sem]) ?_
            exact ov_of (rvar_any a0 N0 q0 B t.id w1 (HO.out.later hJ) HN0.out (by omega) (by have := HTB.out; unfold Tg.B I64 at this; omega)) (HW.out.trans (hJ.mono HW.out.size)) HD1.out
          · intro hne lo hi ph hran hp1 hp2 a w1 hJ hsz hs      -- 7: slot 25
            obtain ⟨rfl, rfl⟩ : 0 = lo ∧ 0 = hi := Prod.mk.inj (Option.some.inj hran)
            obtain rfl : ph = 0 := by omega
            obtain ⟨h0, _⟩ := hs
            have h0 : a.tmps.getD 0 undef = .slice (some ⟨b0, o0, none⟩) n c := h0
            refine op_run rfl rfl (v := .slice (some ⟨b0, o0, none⟩) n c) (w' := w1) ?_ rfl (Below.refl _ _)
            simp [execOp, Act.eval, h0, go_sem]
          · intro hne lo hi ph hran hp1 hp2 a w1 hJ hsz hs      -- 8: slot 26
            obtain ⟨rfl, rfl⟩ : 0 = lo ∧ 0 = hi := Prod.mk.inj (Option.some.inj hran)
            obtain rfl : ph = 0 := by omega
            obtain ⟨h0, _⟩ := hs
            have h0 : a.tmps.getD 5 undef = .int .i64 (j : Nat) := h0
            refine op_run rfl rfl (v := .int .i64 (j : Nat)) (w' := w1) ?_ rfl (Below.refl _ _)
            simp [execOp, Act.eval, h0, go_sem]
          · intro hne lo hi ph hran hp1 hp2 a w1 hJ hsz hs      -- 9: slot 27
            obtain ⟨rfl, rfl⟩ : 0 = lo ∧ 0 = hi := Prod.mk.inj (Option.some.inj hran)
            obtain rfl : ph = 0 := by omega
            obtain ⟨h0, h1, _⟩ := hs
            have h0 : a.tmps.getD 25 undef = .slice (some ⟨b0, o0, none⟩) n c := h0
            have h1 : a.tmps.getD 26 undef = .int .i64 (j : Nat) := h1
            have k0 : ((j : Nat) : Int) < (n : Int) := by omega
            refine op_run rfl rfl (v := .pointer (some ⟨b0, o0 + j * 4, none⟩)) (w' := w1) ?_ rfl (Below.refl _ _)
            simp [execOp, Act.eval, h0, h1, k0, go_sem]
          · intro hne lo hi ph hran hp1 hp2 a w1 hJ hsz hs      -- 10: slot 28
            obtain ⟨rfl, rfl⟩ : 0 = lo ∧ 0 = hi := Prod.mk.inj (Option.some.inj hran)
            obtain rfl : ph = 0 := by omega
            obtain ⟨h0, _⟩ := hs
            have h0 : a.tmps.getD 27 undef = .pointer (some ⟨b0, o0 + j * 4, none⟩) := h0
            refine op_run rfl rfl (v := .pointer (some ⟨b0, o0 + j * 4 + 1, none⟩)) (w' := w1) ?_ rfl (Below.refl _ _)
            simp [execOp, Act.eval, h0, go_sem]
          · intro hne lo hi ph hran hp1 hp2 a w1 hJ hsz hs      -- 11: slot 29
            obtain ⟨rfl, rfl⟩ : 0 = lo ∧ 0 = hi := Prod.mk.inj (Option.some.inj hran)
            obtain rfl : ph = 0 := by omega
            obtain ⟨h0, _⟩ := hs
            have h0 : a.tmps.getD 28 undef = .pointer (some ⟨b0, o0 + j * 4 + 1, none⟩) := h0
            obtain ⟨k0, k1, k2, k3⟩ := HC.out w1 hJ
            refine op_run rfl rfl (v := .int .i64 t.owner) (w' := w1) ?_ rfl (Below.refl _ _)
            simp [execOp, Act.eval, h0, k1, go_sem]
          · intro hne lo hi ph hran hp1 hp2 a w1 hJ hsz hs      -- 12: slot 30
            obtain ⟨rfl, rfl⟩ : 0 = lo ∧ 0 = hi := Prod.mk.inj (Option.some.inj hran)
            obtain rfl : ph = 0 := by omega
            obtain ⟨h0, h1, _⟩ := hs
            have m0 : (oV w D1).p w1 (a.tmps.getD 24 undef) := h0; obtain ⟨a0, p0, h0, r0⟩ := ov_row (n := N1) m0 HN1.out
            have h1 : a.tmps.getD 29 undef = .int .i64 t.owner := h1
            refine op_call rfl rfl (f := 26) (args := #[.slice a0 N1 p0, .int .i64 t.owner]) (by simp [execOp, Act.eval, resolve, h0, h1, go_sem]) ?_
            exact ov_of (rvar_any a0 N1 p0 D1 t.owner w1 r0 HN1.out (by omega) (by have := HTB.out; unfold Tg.B I64 at this; omega)) (HW.out.trans (hJ.mono HW.out.size)) HD2.out
          · intro hne lo hi ph hran hp1 hp2 a w1 hJ hsz hs      -- 13: slot 31
            obtain ⟨rfl, rfl⟩ : 0 = lo ∧ 0 = hi := Prod.mk.inj (Option.some.inj hran)
            obtain rfl : ph = 0 := by omega
            obtain ⟨h0, _⟩ := hs
            have h0 : a.tmps.getD 0 undef = .slice (some ⟨b0, o0, none⟩) n c := h0
            refine op_run rfl rfl (v := .slice (some ⟨b0, o0, none⟩) n c) (w' := w1) ?_ rfl (Below.refl _ _)
            simp [execOp, Act.eval, h0, go_sem]
          · intro hne lo hi ph hran hp1 hp2 a w1 hJ hsz hs      -- 14: slot 32
            obtain ⟨rfl, rfl⟩ : 0 = lo ∧ 0 = hi := Prod.mk.inj (Option.some.inj hran)
            obtain rfl : ph = 0 := by omega
            obtain ⟨h0, _⟩ := hs
            have h0 : a.tmps.getD 5 undef = .int .i64 (j : Nat) := h0
            refine op_run rfl rfl (v := .int .i64 (j : Nat)) (w' := w1) ?_ rfl (Below.refl _ _)
            simp [execOp, Act.eval, h0, go_sem]
          · intro hne lo hi ph hran hp1 hp2 a w1 hJ hsz hs      -- 15: slot 33
            obtain ⟨rfl, rfl⟩ : 0 = lo ∧ 0 = hi := Prod.mk.inj (Option.some.inj hran)
            obtain rfl : ph = 0 := by omega
            obtain ⟨h0, h1, _⟩ := hs
            have h0 : a.tmps.getD 31 undef = .slice (some ⟨b0, o0, none⟩) n c := h0
            have h1 : a.tmps.getD 32 undef = .int .i64 (j : Nat) := h1
            have k0 : ((j : Nat) : Int) < (n : Int) := by omega
            refine op_run rfl rfl (v := .pointer (some ⟨b0, o0 + j * 4, none⟩)) (w' := w1) ?_ rfl (Below.refl _ _)
            simp [execOp, Act.eval, h0, h1, k0, go_sem]
          · intro hne lo hi ph hran hp1 hp2 a w1 hJ hsz hs      -- 16: slot 34
            obtain ⟨rfl, rfl⟩ : 0 = lo ∧ 0 = hi := Prod.mk.inj (Option.some.inj hran)
            obtain rfl : ph = 0 := by omega
            obtain ⟨h0, _⟩ := hs
            have h0 : a.tmps.getD 33 undef = .pointer (some ⟨b0, o0 + j * 4, none⟩) := h0
            refine op_run rfl rfl (v := .pointer (some ⟨b0, o0 + j * 4 + 2, none⟩)) (w' := w1) ?_ rfl (Below.refl _ _)
            simp [execOp, Act.eval, h0, go_sem]
          · intro hne lo hi ph hran hp1 hp2 a w1 hJ hsz hs      -- 17: slot 35
            obtain ⟨rfl, rfl⟩ : 0 = lo ∧ 0 = hi := Prod.mk.inj (Option.some.inj hran)
            obtain rfl : ph = 0 := by omega
            obtain ⟨h0, _⟩ := hs
            have h0 : a.tmps.getD 34 undef = .pointer (some ⟨b0, o0 + j * 4 + 2, none⟩) := h0
            obtain ⟨k0, k1, k2, k3⟩ := HC.out w1 hJ
            refine op_run rfl rfl (v := .int .i64 t.heir) (w' := w1) ?_ rfl (Below.refl _ _)
            simp [execOp, Act.eval, h0, k2, go_sem]
          · intro hne lo hi ph hran hp1 hp2 a w1 hJ hsz hs      -- 18: slot 36
            obtain ⟨rfl, rfl⟩ : 0 = lo ∧ 0 = hi := Prod.mk.inj (Option.some.inj hran)
            obtain rfl : ph = 0 := by omega
            obtain ⟨h0, h1, _⟩ := hs
            have m0 : (oV w D2).p w1 (a.tmps.getD 30 undef) := h0; obtain ⟨a0, p0, h0, r0⟩ := ov_row (n := N2) m0 HN2.out
            have h1 : a.tmps.getD 35 undef = .int .i64 t.heir := h1
            refine op_call rfl rfl (f := 26) (args := #[.slice a0 N2 p0, .int .i64 t.heir]) (by simp [execOp, Act.eval, resolve, h0, h1, go_sem]) ?_
            exact ov_of (rvar_any a0 N2 p0 D2 t.heir w1 r0 HN2.out (by omega) (by have := HTB.out; unfold Tg.B I64 at this; omega)) (HW.out.trans (hJ.mono HW.out.size)) HD3.out
          · intro hne lo hi ph hran hp1 hp2 a w1 hJ hsz hs      -- 19: slot 37
            obtain ⟨rfl, rfl⟩ : 0 = lo ∧ 0 = hi := Prod.mk.inj (Option.some.inj hran)
            obtain rfl : ph = 0 := by omega
            obtain ⟨h0, _⟩ := hs
            have h0 : a.tmps.getD 0 undef = .slice (some ⟨b0, o0, none⟩) n c := h0
            refine op_run rfl rfl (v := .slice (some ⟨b0, o0, none⟩) n c) (w' := w1) ?_ rfl (Below.refl _ _)
            simp [execOp, Act.eval, h0, go_sem]
          · intro hne lo hi ph hran hp1 hp2 a w1 hJ hsz hs      -- 20: slot 38
            obtain ⟨rfl, rfl⟩ : 0 = lo ∧ 0 = hi := Prod.mk.inj (Option.some.inj hran)
            obtain rfl : ph = 0 := by omega
            obtain ⟨h0, _⟩ := hs
            have h0 : a.tmps.getD 5 undef = .int .i64 (j : Nat) := h0
            refine op_run rfl rfl (v := .int .i64 (j : Nat)) (w' := w1) ?_ rfl (Below.refl _ _)
            simp [execOp, Act.eval, h0, go_sem]
          · intro hne lo hi ph hran hp1 hp2 a w1 hJ hsz hs      -- 21: slot 39
            obtain ⟨rfl, rfl⟩ : 0 = lo ∧ 0 = hi := Prod.mk.inj (Option.some.inj hran)
            obtain rfl : ph = 0 := by omega
            obtain ⟨h0, h1, _⟩ := hs
            have h0 : a.tmps.getD 37 undef = .slice (some ⟨b0, o0, none⟩) n c := h0
            have h1 : a.tmps.getD 38 undef = .int .i64 (j : Nat) := h1
            have k0 : ((j : Nat) : Int) < (n : Int) := by omega
            refine op_run rfl rfl (v := .pointer (some ⟨b0, o0 + j * 4, none⟩)) (w' := w1) ?_ rfl (Below.refl _ _)
            simp [execOp, Act.eval, h0, h1, k0, go_sem]
          · intro hne lo hi ph hran hp1 hp2 a w1 hJ hsz hs      -- 22: slot 40
            obtain ⟨rfl, rfl⟩ : 0 = lo ∧ 0 = hi := Prod.mk.inj (Option.some.inj hran)
            obtain rfl : ph = 0 := by omega
            obtain ⟨h0, _⟩ := hs
            have h0 : a.tmps.getD 39 undef = .pointer (some ⟨b0, o0 + j * 4, none⟩) := h0
            refine op_run rfl rfl (v := .pointer (some ⟨b0, o0 + j * 4 + 3, none⟩)) (w' := w1) ?_ rfl (Below.refl _ _)
            simp [execOp, Act.eval, h0, go_sem]
          · intro hne lo hi ph hran hp1 hp2 a w1 hJ hsz hs      -- 23: slot 41
            obtain ⟨rfl, rfl⟩ : 0 = lo ∧ 0 = hi := Prod.mk.inj (Option.some.inj hran)
            obtain rfl : ph = 0 := by omega
            obtain ⟨h0, _⟩ := hs
            have h0 : a.tmps.getD 40 undef = .pointer (some ⟨b0, o0 + j * 4 + 3, none⟩) := h0
            obtain ⟨k0, k1, k2, k3⟩ := HC.out w1 hJ
            refine op_run rfl rfl (v := .int .i64 t.at') (w' := w1) ?_ rfl (Below.refl _ _)
            simp [execOp, Act.eval, h0, k3, go_sem]
          · intro hne lo hi ph hran hp1 hp2 a w1 hJ hsz hs      -- 24: slot 42
            obtain ⟨rfl, rfl⟩ : 0 = lo ∧ 0 = hi := Prod.mk.inj (Option.some.inj hran)
            obtain rfl : ph = 0 := by omega
            obtain ⟨h0, h1, _⟩ := hs
            have m0 : (oV w D3).p w1 (a.tmps.getD 36 undef) := h0; obtain ⟨a0, p0, h0, r0⟩ := ov_row (n := N3) m0 HN3.out
            have h1 : a.tmps.getD 41 undef = .int .i64 t.at' := h1
            refine op_call rfl rfl (f := 26) (args := #[.slice a0 N3 p0, .int .i64 t.at']) (by simp [execOp, Act.eval, resolve, h0, h1, go_sem]) ?_
            exact ov_of (rvar_any a0 N3 p0 D3 t.at' w1 r0 HN3.out (by omega) (by have := HTB.out; unfold Tg.B I64 at this; omega)) (HW.out.trans (hJ.mono HW.out.size)) HD4.out
          · intro hne lo hi ph hran hp1 hp2 a w1 hJ hsz hs      -- 25: slot 4
            obtain ⟨rfl, rfl⟩ : 0 = lo ∧ 0 = hi := Prod.mk.inj (Option.some.inj hran)
            obtain rfl : ph = 0 := by omega
            obtain ⟨h0, _⟩ := hs
            have m0 : (oV w D4).p w1 (a.tmps.getD 42 undef) := h0
            exact op_run rfl rfl (v := a.tmps.getD 42 undef) (w' := w1) (by simp [execOp, Act.eval, go_sem]) m0 (Below.refl _ _)
        · show ∀ ph, ph < 0 → _
          iterate 0 (refine fls ?_ ?_)
          · exact fl0
        intro f w1 hJ hv
        have e4 : (oV w D4).p w1 (f 4) := hv 25 _ 4 rfl rfl
        clear hv
        try simp only [Exit.then]
        simp only [putAll, List.foldl_cons, List.foldl_nil, Option.getD_some, Act.put, List.setIfInBounds_toArray, List.set_cons_succ, List.set_cons_zero]
        generalize f 4 = v5 at e4 ⊢
        have o6 : Own w w1 v5 D4 := e4
        clear e4 hJ
        -- END 7
        rw [HDD.out] at o6
        have HO6 := Lib.hid o6
        clear o6
        go_wp2_with fail
        go_roundw
        case rel => exact ⟨j + 1, by go_num, by omega, HO6⟩
        case measure => simp [intOf]; omega
      · have : j = n := by omega
        subst this
        have HO5 := hO
        rw [headC_all HN.out] at HO5
        clear hO
        go_wp2_with fail
        go_ret2
        exact ⟨_, rfl, HO5.out⟩
end Go.Proofs.Ytiahifpbofkimaa
namespace Go.Proofs.Ytiahifpbofkimaa
open Go.RowKit Go.Proofs
set_option linter.unusedVariables false
set_option linter.unusedSimpArgs false

/-! ### what is known of the tag under way -/
def setN (t : Tg) (k : Nat) (o : Int) : Tg := match k with
  | 0 => ⟨o, t.owner, t.heir, t.at'⟩
  | 1 => ⟨t.id, o, t.heir, t.at'⟩
  | 2 => ⟨t.id, t.owner, o, t.at'⟩
  | _ => ⟨t.id, t.owner, t.heir, o⟩
theorem tagN_set {t : Tg} {o : Int} : ∀ {k : Nat}, k < 4 → tagN (setN t k o) k = o ∧ ∀ i, i < k → tagN (setN t k o) i = tagN t i
  | 0, _ => ⟨rfl, fun i h => absurd h (by omega)⟩
  | 1, _ => ⟨rfl, fun i h => by match i, h with | 0, _ => rfl⟩
  | 2, _ => ⟨rfl, fun i h => by match i, h with | 0, _ => rfl | 1, _ => rfl⟩
  | 3, _ => ⟨rfl, fun i h => by match i, h with | 0, _ => rfl | 1, _ => rfl | 2, _ => rfl⟩
theorem tagL_drop {t : Tg} (x : List UInt8) : ∀ {k : Nat}, k < 4 → ∃ y, (tagL t ++ x).drop (tagP t k).length = varL (tagN t k).toNat ++ y
  | 0, _ => ⟨_, by simp only [tagP, List.length_nil, List.drop_zero, tagL, List.append_assoc]; rfl⟩
  | 1, _ => ⟨varL t.heir.toNat ++ (varL t.at'.toNat ++ x), by
    have : tagL t ++ x = tagP t 1 ++ (varL (tagN t 1).toNat ++ (varL t.heir.toNat ++ (varL t.at'.toNat ++ x))) := by simp [tagL, tagP, tagN]
    rw [this, List.drop_left]⟩
  | 2, _ => ⟨varL t.at'.toNat ++ x, by
    have : tagL t ++ x = tagP t 2 ++ (varL (tagN t 2).toNat ++ (varL t.at'.toNat ++ x)) := by simp [tagL, tagP, tagN]
    rw [this, List.drop_left]⟩
  | 3, _ => ⟨x, by
    have : tagL t ++ x = tagP t 3 ++ (varL (tagN t 3).toNat ++ x) := by simp [tagL, tagP, tagN]
    rw [this, List.drop_left]⟩
theorem tagN_in {t : Tg} (h : t.In) (k : Nat) : 0 ≤ tagN t k ∧ tagN t k < 9223372036854775808 := by
  unfold Tg.In at h
  unfold tagN
  split <;> omega
/-- One number more is known of every chain whose bytes these are. -/
theorem chain_step {l : List UInt8} {d : List Tg} {j k p a : Nat} {t' : Tg} {o : Int} {z : Bool} (hd : ChOk d) (hl : putC d = l) (ht : d[j]? = some t') (hk : k < 4) (hp : p = endC d j + (tagP t' k).length)
    (hg : getVA l ((p : Nat) : Int) = (o, ((a : Nat) : Int), z)) : o = tagN t' k ∧ a = endC d j + (tagP t' (k + 1)).length ∧ z = true := by
  have h1 := endC_drop d j
  rw [hl, rowC_drop ht] at h1
  obtain ⟨y, hy⟩ := tagL_drop (t := t') (rowC (d.drop (j + 1))) hk
  have h2 : l.drop p = varL (tagN t' k).toNat ++ y := by rw [hp, ← List.drop_drop, h1, hy]
  have h3 := tagP_le t' k (by omega)
  have h4 := endC_succ ht
  have h5 := endC_le d (j + 1)
  rw [hl] at h5
  have h6 := tagN_in (hd.in ht) k
  have h7 := getVA_put hg (by omega) h2 (by omega)
  refine ⟨by omega, ?_, h7.2.2⟩
  have : (tagP t' (k + 1)).length = (tagP t' k).length + (varL (tagN t' k).toNat).length := by simp [tagP]
  omega
def GI (l : List UInt8) (j : Nat) (w3 wr : World) (x : Nat) (v4 : Value) (k : Nat) : Prop :=
  ∃ (t : Tg) (p : Nat), v4 = .int .i64 (p : Nat) ∧ p ≤ l.length ∧ RecAt wr x #[.int .i64 t.id, .int .i64 t.owner, .int .i64 t.heir, .int .i64 t.at'] 85 ∧ t.B ∧ Below w3.heap.size w3 wr ∧
    ∀ d t', ChOk d → putC d = l → d[j]? = some t' → (∀ i, i < k → tagN t i = tagN t' i) ∧ p = endC d j + (tagP t' k).length
theorem gi_step {l : List UInt8} {j k p a x : Nat} {w3 wr : World} {t : Tg} {o : Int} {z : Bool} (hk : k < 4) (ha : a ≤ l.length) (hx : w3.heap.size ≤ x) (hr : RecAt wr x #[.int .i64 t.id, .int .i64 t.owner, .int .i64 t.heir, .int .i64 t.at'] 85) (htb : t.B) (hb : Below w3.heap.size w3 wr)
    (hq : ∀ d t', ChOk d → putC d = l → d[j]? = some t' → (∀ i, i < k → tagN t i = tagN t' i) ∧ p = endC d j + (tagP t' k).length) (hg : getVA l ((p : Nat) : Int) = (o, ((a : Nat) : Int), z)) :
    GI l j w3 (wr.setCell ⟨x, k, none⟩ (.int .i64 o)) x (.int .i64 (a : Nat)) (k + 1) := by
  refine ⟨setN t k o, a, rfl, ha, ?_, ?_, hb.setCell (p := ⟨x, k, none⟩) hx _, fun d t' hd hl ht => ?_⟩
  · have := hr.set k (.int .i64 o)
    match k, hk, this with
    | 0, _, this => simpa [setN] using this
    | 1, _, this => simpa [setN] using this
    | 2, _, this => simpa [setN] using this
    | 3, _, this => simpa [setN] using this
  · have h1 := getVA_nat hg
    unfold Tg.B I64 at htb ⊢
    match k, hk with
    | 0, _ => simp only [setN]; omega
    | 1, _ => simp only [setN]; omega
    | 2, _ => simp only [setN]; omega
    | 3, _ => simp only [setN]; omega
  · obtain ⟨h1, h2⟩ := hq d t' hd hl ht
    obtain ⟨h3, h4, _⟩ := chain_step hd hl ht hk h2 hg
    refine ⟨fun i hi => ?_, h4⟩
    by_cases e : i = k
    · subst e; rw [(tagN_set hk).1, h3]
    · rw [(tagN_set hk).2 i (by omega)]; exact h1 i (by omega)
theorem run_ixp4 (W : World) (a b c d : Option Addr) (k : Nat) (v : Option Addr) (h : [a, b, c, d][k]? = some v) : (Instr.index 121 (.agg #[.pointer a, .pointer b, .pointer c, .pointer d]) (.int .i64 (k : Nat))).run Try.prog W = .ok (.pointer v) W := by
  have u3 := Try.underlying90
  have a3 := Try.isAgg90
  have z3 := Try.sizeOf90
  match k, h with
  | 0, h => simp at h; subst h; simp [Instr.index, asIntOf, run_underlying Try.underlying121, go_sem, a3, z3]
  | 1, h => simp at h; subst h; simp [Instr.index, asIntOf, run_underlying Try.underlying121, go_sem, a3, z3]
  | 2, h => simp at h; subst h; simp [Instr.index, asIntOf, run_underlying Try.underlying121, go_sem, a3, z3]
  | 3, h => simp at h; subst h; simp [Instr.index, asIntOf, run_underlying Try.underlying121, go_sem, a3, z3]
  | k + 4, h => simp at h
/-- The tag is whole: so far every chain whose bytes these are goes along. -/
theorem tag_eq {t u : Tg} (h : ∀ i, i < 4 → tagN t i = tagN u i) : t = u := by
  obtain ⟨a, b, c, d⟩ := t
  obtain ⟨e, f, g, i⟩ := u
  have h0 := h 0 (by omega); have h1 := h 1 (by omega); have h2 := h 2 (by omega); have h3 := h 3 (by omega)
  simp only [tagN] at h0 h1 h2 h3
  rw [h0, h1, h2, h3]
theorem gi_end {l : List UInt8} {j p : Nat} {t : Tg} {us : List Tg} (hq : ∀ d t', ChOk d → putC d = l → d[j]? = some t' → (∀ i, i < 4 → tagN t i = tagN t' i) ∧ p = endC d j + (tagP t' 4).length)
    (hu : ∀ d, ChOk d → putC d = l → us = d.take j) (hn : ∀ d, ChOk d → putC d = l → j < d.length) : ∀ d, ChOk d → putC d = l → us ++ [t] = d.take (j + 1) ∧ p = endC d (j + 1) := fun d hd hl => by
  have hj := hn d hd hl
  have ht : d[j]? = some d[j] := List.getElem?_eq_getElem hj
  obtain ⟨h1, h2⟩ := hq d _ hd hl ht
  rw [hu d hd hl, tag_eq h1]
  exact ⟨(List.take_succ_eq_append_getElem hj).symm, by rw [h2, endC_succ ht, tagP_four]⟩
def CGuess (l : List UInt8) (w : World) (e : Ending) (w' : World) : Prop := ∃ v ts, e = .returned v ∧ TOwn w w' v ts ∧ ts.length ≤ 32 ∧ GuessC l ts
theorem first_num {l : List UInt8} {o q : Int} {z : Bool} (hg : getVA l 0 = (o, q, z)) : ∀ d : List Tg, ChOk d → putC d = l → o = d.length ∧ q = (endC d 0 : Nat) ∧ z = true := fun d hd hl => by
  have h1 := hd.2.1
  have := getVA_put (q := 0) (d := d.length) (x := rowC d) hg (Nat.zero_le _) (by rw [List.drop_zero, ← hl]; rfl) (by omega)
  rw [endC_zero]
  exact ⟨this.1, by rw [this.2.1]; simp, this.2.2⟩

set_option maxRecDepth 100000 in
set_option maxHeartbeats 6400000 in
theorem chguess_any (ad : Option Addr) (n c : Nat) (l : List UInt8) (w : World) (hr : Row w ad c l) (hn : l.length = n) (hlen : n ≤ 100000) :
    Calls Try.prog 96 #[.slice ad n c] w (CGuess l w) := by
  have HR := Lib.hid hr
  have HN := Lib.hid hn
  obtain ⟨o, q, z, hg⟩ : ∃ o q z, getVA l 0 = (o, q, z) := ⟨_, _, _, rfl⟩
  have hpl := getVA_place hg (by decide)
  obtain ⟨a, rfl, ha⟩ := hpl
  have ho := getVA_nat hg
  have HF := Lib.hid (first_num hg)
  have HK := Lib.hid (getvar_any ad n c l 0 w hr hn hlen (by decide) (by decide))
  rw [hg] at HK
  simp only [Got3] at HK
  have HA : Hid (a ≤ l.length) := Lib.hid ha
  clear hr hn hg ha
  by_cases h32 : 32 < o
  · have HG : Hid (GuessC l []) := Lib.hid (fun d hd hl => by have h1 := (HF.out d hd hl).1; have := hd.2.1; omega)
    go_enter Try.func96, Try.ntmps96
    go_wp2_with fail
    refine HK.out.mono ?_
    rintro e w1 ⟨rfl, rfl⟩
    go_wp2_with fail
    go_ret
    exact ⟨_, _, rfl, TOwn.nil w, by simp, HG.out⟩
  · obtain ⟨N, hN⟩ : ∃ N : Nat, o = N := ⟨o.toNat, by omega⟩
    subst hN
    have hN32 : N ≤ 32 := by omega
    have HFN : Hid (∀ d, ChOk d → putC d = l → N = d.length) := Lib.hid (fun d hd hl => by have := (HF.out d hd hl).1; omega)
    have HFA : Hid (∀ d, ChOk d → putC d = l → a = endC d 0) := Lib.hid (fun d hd hl => by have := (HF.out d hd hl).2.1; omega)
    clear HF h32 ho
    go_enter Try.func96, Try.ntmps96
    go_wp2_with fail
    refine HK.out.mono ?_
    rintro e w1 ⟨rfl, rfl⟩
    clear HK
    go_wp2_with fail
    go_loopw [4, 6, 7, 9, 19] (fun v4 v _ _ i wr => ∃ (j p : Nat) (us : List Tg), i = .int .i64 j ∧ v4 = .int .i64 (p : Nat) ∧ j ≤ N ∧ Hid (p ≤ l.length) ∧ Hid (us.length = j) ∧ Hid (TOwn w wr v us) ∧ Hid (∀ d, ChOk d → putC d = l → us = d.take j ∧ p = endC d j)) (fun _ _ _ _ i _ => N - (intOf i).toNat)
    case atStart => exact ⟨0, a, [], rfl, rfl, by omega, HA, Lib.hid rfl, Lib.hid (TOwn.nil w), Lib.hid (fun d hd hl => ⟨rfl, HFA.out d hd hl⟩)⟩
    case round =>
      obtain ⟨j, p, us, rfl, rfl, hj, hp, hul, hO, hU⟩ := hrel
      by_cases hjn : (j : Int) < N
      · have hba : Below wr.heap.size wr (wr.alloc (.cells #[.int .i64 0, .int .i64 0, .int .i64 0, .int .i64 0] 85)) := (Below.refl _ _).alloc (Nat.le_refl _) _
        have HX0 := Lib.hid (RecAt.new wr #[.int .i64 0, .int .i64 0, .int .i64 0, .int .i64 0] 85)
        have HGI : Hid (GI l j wr (wr.alloc (.cells #[.int .i64 0, .int .i64 0, .int .i64 0, .int .i64 0] 85)) wr.heap.size (.int .i64 (p : Nat)) 0) := Lib.hid ⟨⟨0, 0, 0, 0⟩, p, rfl, hp.out, HX0.out, by unfold Tg.B I64; simp only; omega, hba, fun d t' hd hl ht => ⟨fun i hi => absurd hi (by omega), by rw [(hU.out d hd hl).2]; rfl⟩⟩
        have HRW := Lib.hid (fun W (h : Below wr.heap.size wr W) => (HR.out.later hO.out.below).later h)
        have HXL : Hid (wr.heap.size ≤ wr.heap.size) := Lib.hid (Nat.le_refl _)
        clear hba HX0
        go_upto_region 8 with fail
        generalize hw4 : (wr.alloc (.cells #[.int .i64 0, .int .i64 0, .int .i64 0, .int .i64 0] 85)) = w4 at *
        obtain ⟨p4, hp4⟩ : ∃ x, wr.heap.size = x := ⟨_, rfl⟩
        have HP4 := Lib.hid hp4
        rw [hp4] at HGI ⊢
        clear hw4 hp4
        go_wp2_with fail
        go_loopw [4, 9, 26] (fun v4 _ i wq => (i = .int .i64 0 ∧ Hid (GI l j wr wq p4 v4 0)) ∨ (i = .int .i64 1 ∧ Hid (GI l j wr wq p4 v4 1)) ∨ (i = .int .i64 2 ∧ Hid (GI l j wr wq p4 v4 2)) ∨ (i = .int .i64 3 ∧ Hid (GI l j wr wq p4 v4 3)) ∨ (i = .int .i64 4 ∧ Hid (GI l j wr wq p4 v4 4))) (fun _ _ i _ => 4 - (intOf i).toNat)
        case atStart => exact .inl ⟨rfl, HGI⟩
        case round =>
          clear HGI
          rcases hrel with ⟨rfl, hG⟩ | ⟨rfl, hG⟩ | ⟨rfl, hG⟩ | ⟨rfl, hG⟩ | ⟨rfl, hG⟩
          · obtain ⟨t, p2, rfl, hp2, hx2, htb, hb2, hq2⟩ := hG.out
            obtain ⟨o2, q2, z2, hg2⟩ : ∃ o q z, getVA l ((p2 : Nat) : Int) = (o, q, z) := ⟨_, _, _, rfl⟩
            obtain ⟨a2, rfl, ha2⟩ := getVA_place hg2 (Int.natCast_nonneg _)
            have HG2 := Lib.hid (gi_step (k := 0) (by decide) ha2 (Nat.le_of_eq HP4.out) hx2 htb hb2 hq2 hg2)
            have HK2 := Lib.hid (getvar_any ad n c l ((p2 : Nat) : Int) _ (HRW.out _ hb2) HN.out hlen (by omega) (by have := HN.out; omega))
            rw [hg2] at HK2
            simp only [Got3] at HK2
            have hix : ∀ W, (Instr.index 121 (.agg #[.pointer (some ⟨p4, 0, none⟩), .pointer (some ⟨p4, 1, none⟩), .pointer (some ⟨p4, 2, none⟩), .pointer (some ⟨p4, 3, none⟩)]) (.int .i64 0)).run Try.prog W = .ok (.pointer (some ⟨p4, 0, none⟩)) W := fun W => run_ixp4 W _ _ _ _ 0 _ rfl
            obtain ⟨x0, x1, x2, x3⟩ := hx2.c4
            obtain ⟨f0, f1, f2, f3⟩ := hx2.f4
            clear hp2 hx2 htb hb2 hq2 hg2 ha2 hG
            go_wp2_with fail
            refine HK2.out.mono ?_
            rintro e w5 ⟨rfl, rfl⟩
            go_wp2_with fail
            go_roundw
            case rel => exact .inr (.inl ⟨rfl, HG2⟩)
            case measure => simp [intOf]
          · obtain ⟨t, p2, rfl, hp2, hx2, htb, hb2, hq2⟩ := hG.out
            obtain ⟨o2, q2, z2, hg2⟩ : ∃ o q z, getVA l ((p2 : Nat) : Int) = (o, q, z) := ⟨_, _, _, rfl⟩
            obtain ⟨a2, rfl, ha2⟩ := getVA_place hg2 (Int.natCast_nonneg _)
            have HG2 := Lib.hid (gi_step (k := 1) (by decide) ha2 (Nat.le_of_eq HP4.out) hx2 htb hb2 hq2 hg2)
            have HK2 := Lib.hid (getvar_any ad n c l ((p2 : Nat) : Int) _ (HRW.out _ hb2) HN.out hlen (by omega) (by have := HN.out; omega))
            rw [hg2] at HK2
            simp only [Got3] at HK2
            have hix : ∀ W, (Instr.index 121 (.agg #[.pointer (some ⟨p4, 0, none⟩), .pointer (some ⟨p4, 1, none⟩), .pointer (some ⟨p4, 2, none⟩), .pointer (some ⟨p4, 3, none⟩)]) (.int .i64 1)).run Try.prog W = .ok (.pointer (some ⟨p4, 1, none⟩)) W := fun W => run_ixp4 W _ _ _ _ 1 _ rfl
            obtain ⟨x0, x1, x2, x3⟩ := hx2.c4
            obtain ⟨f0, f1, f2, f3⟩ := hx2.f4
            clear hp2 hx2 htb hb2 hq2 hg2 ha2 hG
            go_wp2_with fail
            refine HK2.out.mono ?_
            rintro e w5 ⟨rfl, rfl⟩
            go_wp2_with fail
            go_roundw
            case rel => exact .inr (.inr (.inl ⟨rfl, HG2⟩))
            case measure => simp [intOf]
          · obtain ⟨t, p2, rfl, hp2, hx2, htb, hb2, hq2⟩ := hG.out
            obtain ⟨o2, q2, z2, hg2⟩ : ∃ o q z, getVA l ((p2 : Nat) : Int) = (o, q, z) := ⟨_, _, _, rfl⟩
            obtain ⟨a2, rfl, ha2⟩ := getVA_place hg2 (Int.natCast_nonneg _)
            have HG2 := Lib.hid (gi_step (k := 2) (by decide) ha2 (Nat.le_of_eq HP4.out) hx2 htb hb2 hq2 hg2)
            have HK2 := Lib.hid (getvar_any ad n c l ((p2 : Nat) : Int) _ (HRW.out _ hb2) HN.out hlen (by omega) (by have := HN.out; omega))
            rw [hg2] at HK2
            simp only [Got3] at HK2
            have hix : ∀ W, (Instr.index 121 (.agg #[.pointer (some ⟨p4, 0, none⟩), .pointer (some ⟨p4, 1, none⟩), .pointer (some ⟨p4, 2, none⟩), .pointer (some ⟨p4, 3, none⟩)]) (.int .i64 2)).run Try.prog W = .ok (.pointer (some ⟨p4, 2, none⟩)) W := fun W => run_ixp4 W _ _ _ _ 2 _ rfl
            obtain ⟨x0, x1, x2, x3⟩ := hx2.c4
            obtain ⟨f0, f1, f2, f3⟩ := hx2.f4
            clear hp2 hx2 htb hb2 hq2 hg2 ha2 hG
            go_wp2_with fail
            refine HK2.out.mono ?_
            rintro e w5 ⟨rfl, rfl⟩
            go_wp2_with fail
            go_roundw
            case rel => exact .inr (.inr (.inr (.inl ⟨rfl, HG2⟩)))
            case measure => simp [intOf]
          · obtain ⟨t, p2, rfl, hp2, hx2, htb, hb2, hq2⟩ := hG.out
            obtain ⟨o2, q2, z2, hg2⟩ : ∃ o q z, getVA l ((p2 : Nat) : Int) = (o, q, z) := ⟨_, _, _, rfl⟩
            obtain ⟨a2, rfl, ha2⟩ := getVA_place hg2 (Int.natCast_nonneg _)
            have HG2 := Lib.hid (gi_step (k := 3) (by decide) ha2 (Nat.le_of_eq HP4.out) hx2 htb hb2 hq2 hg2)
            have HK2 := Lib.hid (getvar_any ad n c l ((p2 : Nat) : Int) _ (HRW.out _ hb2) HN.out hlen (by omega) (by have := HN.out; omega))
            rw [hg2] at HK2
            simp only [Got3] at HK2
            have hix : ∀ W, (Instr.index 121 (.agg #[.pointer (some ⟨p4, 0, none⟩), .pointer (some ⟨p4, 1, none⟩), .pointer (some ⟨p4, 2, none⟩), .pointer (some ⟨p4, 3, none⟩)]) (.int .i64 3)).run Try.prog W = .ok (.pointer (some ⟨p4, 3, none⟩)) W := fun W => run_ixp4 W _ _ _ _ 3 _ rfl
            obtain ⟨x0, x1, x2, x3⟩ := hx2.c4
            obtain ⟨f0, f1, f2, f3⟩ := hx2.f4
            clear hp2 hx2 htb hb2 hq2 hg2 ha2 hG
            go_wp2_with fail
            refine HK2.out.mono ?_
            rintro e w5 ⟨rfl, rfl⟩
            go_wp2_with fail
            go_roundw
            case rel => exact .inr (.inr (.inr (.inr ⟨rfl, HG2⟩)))
            case measure => simp [intOf]
          · obtain ⟨t, p2, rfl, hp2, hx2, htb, hb2, hq2⟩ := hG.out
            have HU2 := Lib.hid (gi_end hq2 (fun d hd hl => (hU.out d hd hl).1) (fun d hd hl => by have := HFN.out d hd hl; omega))
            have HP2 := Lib.hid hp2
            have HTB := Lib.hid htb
            have HO2 := Lib.hid (hO.out.later hb2)
            have HUL : Hid ((us ++ [t]).length = j + 1) := Lib.hid (by rw [List.length_append, hul.out]; rfl)
            obtain ⟨x0, x1, x2, x3⟩ := hx2.c4
            clear hp2 hx2 htb hb2 hq2 hG hO
            go_wp2_with (at_builtin; refine wp_tag rfl _ _ rfl _ _ rfl w HO2.out t HTB.out rfl (by rw [hul.out]; omega) ?_; intro v2 w2 o2 hgr)
            clear hgr
            have HO3 := Lib.hid o2
            clear o2
            go_wp2_with fail
            go_roundw
            case rel => exact ⟨j + 1, p2, us ++ [t], by go_num, rfl, by omega, HP2, HUL, HO3, HU2⟩
            case measure => simp [intOf]; omega
      · have : j = N := by omega
        subst this
        have HG : Hid (GuessC l us) := Lib.hid (fun d hd hl => by rw [(hU.out d hd hl).1, HFN.out d hd hl, List.take_length])
        go_wp2_with fail
        go_ret
        exact ⟨_, _, rfl, hO.out, by have := hul.out; omega, HG.out⟩
/-- What is got, and why not. -/
def CGot (l : List UInt8) (w : World) (e : Ending) (w' : World) : Prop := ∃ v, e = .returned (.tuple #[v, .int .i64 (getCh l).2]) ∧ TOwn w w' v (getCh l).1
theorem cgot_no {l : List UInt8} {w w' : World} (h : getCh l = ([], 2)) (hb : Below w.heap.size w w') : CGot l w (.returned (.tuple #[.slice none 0 0, .int .i64 2])) w' := by
  unfold CGot; rw [h]
  exact ⟨_, rfl, World.ownsRow_nil _ _ _ _, hb, fun t h => by cases h⟩
set_option maxHeartbeats 1600000 in
theorem chget_any (ad : Option Addr) (n c : Nat) (l : List UInt8) (w : World) (hr : Row w ad c l) (hn : l.length = n) (hlen : n ≤ 100000) :
    Calls Try.prog 87 #[.slice ad n c] w (CGot l w) := by
  have HR := Lib.hid hr
  have HN := Lib.hid hn
  have HK := Lib.hid (chguess_any ad n c l w hr hn hlen)
  clear hr hn
  go_enter Try.func87, Try.ntmps87
  go_wp2_with fail
  refine HK.out.mono ?_
  rintro e w1 ⟨v, us, rfl, o1, h32, hg⟩
  obtain ⟨m, hm⟩ : ∃ m, us.length = m := ⟨_, rfl⟩
  obtain ⟨a1, c1, rfl, r1⟩ := o1.row_n hm
  have HO1 := Lib.hid o1
  have HB1 := Lib.hid o1.below
  have HG := Lib.hid hg
  have HP := Lib.hid (chput_any a1 m c1 us w1 r1 hm)
  clear HK o1 hg r1 h32 hm
  cases hx : rightC us with
  | false =>
    rw [putCh_no hx] at HP
    have HF := Lib.hid (guessC_not HG.out (.inl hx))
    clear hx
    go_wp2_with fail
    refine HP.out.mono ?_
    rintro e w2 ⟨v2, rfl, o2⟩
    have HB2 := Lib.hid (HB1.out.trans (o2.below.mono HB1.out.size))
    clear o2
    go_wp2_with fail
    go_ret2
    exact cgot_no HF.out HB2.out
  | true =>
    rw [putCh_yes hx] at HP
    have HX := Lib.hid hx
    clear hx
    go_wp2_with fail
    refine HP.out.mono ?_
    rintro e w2 ⟨v2, rfl, o2⟩
    obtain ⟨m2, hm2⟩ : ∃ m, (putC us).length = m := ⟨_, rfl⟩
    obtain ⟨a2, c2, rfl, r2⟩ := o2.row_n hm2
    have HB2 := Lib.hid (HB1.out.trans (o2.below.mono HB1.out.size))
    have HO2 := Lib.hid (HO1.out.later o2.below)
    have HE := Lib.hid (equal_any a2 ad m2 n c2 c (putC us) l w2 r2 (HR.out.later HB2.out) hm2 HN.out)
    clear o2 r2 hm2
    by_cases he : putC us = l
    · have HF := Lib.hid (guessC_yes HX.out he)
      have hd : decide (putC us = l) = true := by simpa using he
      rw [hd] at HE
      clear he hd
      go_wp2_with (go_at_call 32; refine HE.out.mono ?_; rintro e w3 ⟨rfl, rfl⟩)
      go_ret2
      unfold CGot
      rw [HF.out]
      exact ⟨_, rfl, HO2.out⟩
    · have HF := Lib.hid (guessC_not HG.out (.inr he))
      have hd : decide (putC us = l) = false := by simpa using he
      rw [hd] at HE
      clear he hd
      go_wp2_with (go_at_call 32; refine HE.out.mono ?_; rintro e w3 ⟨rfl, rfl⟩)
      go_ret2
      exact cgot_no HF.out HB2.out
end Go.Proofs.Ytiahifpbofkimaa
namespace Go.Proofs.Ytiahifpbofkimaa
open Go.RowKit Go.Proofs
set_option linter.unusedVariables false
set_option linter.unusedSimpArgs false

/-! ### numbers, one behind the other -/
/-- Of a chain's bytes a tag's four numbers are there. -/
theorem numsA_chain {l : List UInt8} {d : List Tg} {j : Nat} {t' : Tg} (hd : ChOk d) (hl : putC d = l) (ht : d[j]? = some t') : ∀ k, k ≤ 4 → numsA l (endC d j) k = some ((List.range k).map (fun i => (tagN t' i).toNat), endC d j + (tagP t' k).length)
  | 0, _ => rfl
  | k + 1, hk => by
    have ih := numsA_chain hd hl ht k (by omega)
    obtain ⟨o, q, z, hg⟩ : ∃ o q z, getVA l ((endC d j + (tagP t' k).length : Nat) : Int) = (o, q, z) := ⟨_, _, _, rfl⟩
    obtain ⟨a, rfl, _⟩ := getVA_place hg (Int.natCast_nonneg _)
    obtain ⟨h1, h2, h3⟩ := chain_step hd hl ht (by omega) rfl hg
    subst h3
    rw [numsA_yes ih hg, List.range_succ, List.map_append, h1, h2]
    rfl
def NumsP (l : List UInt8) (p : Nat) (w : World) (e : Ending) (w' : World) : Prop :=
  (∃ v vs q, numsA l p 4 = some (vs, q) ∧ e = .returned (.tuple #[v, .int .i64 (q : Nat), .bool true]) ∧ IOwn w w' v vs ∧ vs.length = 4 ∧ q ≤ l.length ∧ ∀ z ∈ vs, z < 9223372036854775808) ∨
  (numsA l p 4 = none ∧ e = .returned (.tuple #[.slice none 0 0, .int .i64 0, .bool false]) ∧ Below w.heap.size w w')
set_option maxRecDepth 20000 in
set_option maxHeartbeats 3200000 in
theorem numbers_any (ad : Option Addr) (n c : Nat) (l : List UInt8) (p : Nat) (w : World) (hr : Row w ad c l) (hn : l.length = n) (hlen : n ≤ 100000) (hp : p ≤ n) :
    Calls Try.prog 34 #[.slice ad n c, .int .i64 (p : Nat), .int .i64 4] w (NumsP l p w) := by
  have HR := Lib.hid hr
  have HN := Lib.hid hn
  have HP : Hid (p ≤ l.length) := Lib.hid (by omega)
  clear hr hn hp
  go_enter Try.func34, Try.ntmps34
  go_wp2_with fail
  go_loopw [1, 9, 10, 11, 12, 13] (fun at' v i _ _ _ wr => ∃ (j q : Nat) (vs : List Nat), at' = .int .i64 (q : Nat) ∧ i = .int .i64 (j : Nat) ∧ j ≤ 4 ∧ Hid (q ≤ l.length) ∧ Hid (vs.length = j) ∧ Hid (IOwn w wr v vs) ∧ Hid (numsA l p j = some (vs, q)) ∧ Hid (∀ z ∈ vs, z < 9223372036854775808)) (fun _ _ i _ _ _ _ => 4 - (intOf i).toNat)
  case atStart => exact ⟨0, p, [], rfl, rfl, by omega, HP, Lib.hid rfl, Lib.hid (IOwn.nil w), Lib.hid rfl, Lib.hid (fun z h => by cases h)⟩
  case round =>
    obtain ⟨j, q, vs, rfl, rfl, hj, hq, hl, hO, hA, hZ⟩ := hrel
    by_cases hj4 : (j : Int) < 4
    · obtain ⟨o, q2, z, hg⟩ : ∃ o q2 z, getVA l ((q : Nat) : Int) = (o, q2, z) := ⟨_, _, _, rfl⟩
      obtain ⟨a, rfl, ha⟩ := getVA_place hg (Int.natCast_nonneg _)
      have ho := getVA_nat hg
      obtain ⟨O, hO2⟩ : ∃ O : Nat, o = O := ⟨o.toNat, by omega⟩
      subst hO2
      have HK := Lib.hid (rgetvar_any ad n c l ((q : Nat) : Int) wr (HR.out.later hO.out.2) HN.out hlen (by omega) (by have := hq.out; have := HN.out; omega))
      rw [hg] at HK
      simp only [Got3] at HK
      cases z with
      | true =>
        have HA2 := Lib.hid (numsA_yes hA.out hg)
        rw [Int.toNat_natCast] at HA2
        have HQ : Hid (a ≤ l.length) := Lib.hid ha
        have HL2 : Hid ((vs ++ [O]).length = j + 1) := Lib.hid (by rw [List.length_append, hl.out]; rfl)
        have HZ2 : Hid (∀ z ∈ vs ++ [O], z < 9223372036854775808) := Lib.hid (fun z h => by
          rcases List.mem_append.1 h with h | h
          · exact hZ.out z h
          · simp at h; omega)
        clear hg ha ho
        go_wp2_with fail
        refine HK.out.mono ?_
        rintro e w2 ⟨rfl, rfl⟩
        go_wp2_with (at_builtin; refine wp_num rfl _ _ rfl _ _ rfl w hO.out _ O rfl rfl (by rw [hl.out]; omega) ?_; intro v2 w2 o2 hgr _)
        clear hgr
        have HO2 := Lib.hid o2
        clear o2
        go_wp2_with fail
        go_roundw
        case rel => exact ⟨j + 1, a, vs ++ [O], rfl, by go_num, by omega, HQ, HL2, HO2, HA2, HZ2⟩
        case measure => simp [intOf]; omega
      | false =>
        have HF : Hid (numsA l p 4 = none) := Lib.hid (by
          have := numsA_none (numsA_no hA.out hg) (4 - (j + 1))
          rw [show j + 1 + (4 - (j + 1)) = 4 by omega] at this
          exact this)
        clear hg ha ho
        go_wp2_with fail
        refine HK.out.mono ?_
        rintro e w2 ⟨rfl, rfl⟩
        go_wp2_with fail
        go_ret3
        exact .inr ⟨HF.out, rfl, hO.out.2⟩
    · obtain rfl : j = 4 := by omega
      go_wp2_with fail
      go_ret3
      exact .inl ⟨_, vs, q, hA.out, rfl, hO.out, hl.out, hq.out, hZ.out⟩

theorem step_tag {ops : Array Oper} {o : Oper} {a : Act} {w0 : World} {K : Act → World → Prop} {Q : Exit → Act → World → Prop} {E : Prop} (hgd : o.guard = none) (s x : Operand) (ho : o.op = .call { callee := .builtin .append, args := #[s, x], argTypes := #[22, 22] })
    (v : Value) (ts : List Tg) (hs : a.eval s = v) (W0 : World) (hown : TOwn W0 w0 v ts) (t : Tg) (ht : t.B) (hx : a.eval x = .slice (some ⟨w0.heap.size, 0, none⟩) 1 1) (hlen : ts.length + 1 ≤ 1000000)
    (hK : ∀ v' w', TOwn W0 w' v' (ts ++ [t]) → (w0.alloc (.cells #[.int .i64 t.id, .int .i64 t.owner, .int .i64 t.heir, .int .i64 t.at'] 85)).grownBy w' v.ownBlock → K (a.put o.dst v') w') :
    if Region.wanted o (yielded ops a.tmps) = true then Oper.wp Try.prog o a (w0.alloc (.cells #[.int .i64 t.id, .int .i64 t.owner, .int .i64 t.heir, .int .i64 t.at'] 85)) K Q else E := by
  have hw : Region.wanted o (yielded ops a.tmps) = true := by simp [Region.wanted, hgd]
  rw [if_pos hw]
  obtain ⟨i0, hi, hz0, hz1, hz2⟩ := info_parts info_tag
  have h1 := hown.later ((Below.refl _ _).alloc (Nat.le_refl _) (.cells #[.int .i64 t.id, .int .i64 t.owner, .int .i64 t.heir, .int .i64 t.at'] 85))
  have hrec := RecAt.new w0 #[.int .i64 t.id, .int .i64 t.owner, .int .i64 t.heir, .int .i64 t.at'] 85
  obtain ⟨v', w', hr, h2, h3, h4, h5⟩ := run_append_own_at (P := Try.prog) (w0.alloc (.cells #[.int .i64 t.id, .int .i64 t.owner, .int .i64 t.heir, .int .i64 t.at'] 85)) W0.heap.size 22 o.type 85 i0 _ 4 32 Try.underlying22 hi hz0 hz1 hz2 rfl (by decide) v _ _ h1.1 ⟨w0.heap.size, 0, none⟩ 1 1 (tagV t) rfl
    (fun j u hu => by
      have e0 : (⟨w0.heap.size, 0, none⟩ : Addr).add j = ⟨w0.heap.size, j, none⟩ := by unfold Addr.add; split <;> simp_all
      rw [e0]
      exact hrec.cell (by simpa [tagV] using hu))
    (fun u hu => by
      simp only [tagV, List.mem_cons, List.not_mem_nil, or_false] at hu
      rcases hu with rfl | rfl | rfl | rfl <;> rfl) (by unfold maxLen; omega) (by omega) h1.2.1.size
  unfold Oper.wp execOp
  simp only [ho, resolve, invoke, builtin, Sem.run_bind, Sem.run_pure, Result.andThen_ok, List.map_toArray, List.map_cons, List.map_nil, hs, hx, hr]
  refine hK _ _ ⟨by simpa using h2, h1.2.1.grown h3 h1.2.1.size (fun k hk => (World.ownsRow.lt h1.1 k hk).1), fun s hs => ?_⟩ h3
  rcases List.mem_append.1 hs with hs | hs
  · exact hown.2.2 s hs
  · simp at hs; subst hs; exact ht

/-! ### the document's Get -/
theorem get_vain {l : List UInt8} (h : ∀ d : List Tg, ChOk d → putC d = l → False) : getCh l = ([], 2) := getCh_none fun d hd hl => h d hd hl
theorem four {vs : List Nat} (h : vs.length = 4) : ∃ a b c d, vs = [a, b, c, d] := by
  match vs, h with
  | [a, b, c, d], _ => exact ⟨a, b, c, d, rfl⟩
set_option maxRecDepth 100000 in
set_option maxHeartbeats 6400000 in
theorem chrget_any (ad : Option Addr) (n c : Nat) (l : List UInt8) (w : World) (hr : Row w ad c l) (hn : l.length = n) (hlen : n ≤ 100000) :
    Calls Try.prog 74 #[.slice ad n c] w (CGot l w) := by
  have HR := Lib.hid hr
  have HN := Lib.hid hn
  obtain ⟨o, q, z, hg⟩ : ∃ o q z, getVA l 0 = (o, q, z) := ⟨_, _, _, rfl⟩
  have hpl := getVA_place hg (by decide)
  obtain ⟨a, rfl, ha⟩ := hpl
  have ho := getVA_nat hg
  have HF := Lib.hid (first_num hg)
  have HK := Lib.hid (rgetvar_any ad n c l 0 w hr hn hlen (by decide) (by decide))
  rw [hg] at HK
  simp only [Got3] at HK
  have HA : Hid (a ≤ l.length) := Lib.hid ha
  clear hr hn hg ha
  cases z with
  | false =>
    have HG := Lib.hid (get_vain (l := l) fun d hd hl => by have := (HF.out d hd hl).2.2; cases this)
    go_enter Try.func74, Try.ntmps74
    go_wp2_with fail
    refine HK.out.mono ?_
    rintro e w1 ⟨rfl, rfl⟩
    go_wp2_with fail
    go_ret2
    exact cgot_no HG.out (Below.refl _ _)
  | true =>
    by_cases h32 : 32 < o
    · have HG := Lib.hid (get_vain (l := l) fun d hd hl => by have h1 := (HF.out d hd hl).1; have := hd.2.1; omega)
      go_enter Try.func74, Try.ntmps74
      go_wp2_with fail
      refine HK.out.mono ?_
      rintro e w1 ⟨rfl, rfl⟩
      go_wp2_with fail
      go_ret2
      exact cgot_no HG.out (Below.refl _ _)
    · obtain ⟨N, hN⟩ : ∃ N : Nat, o = N := ⟨o.toNat, by omega⟩
      subst hN
      have hN32 : N ≤ 32 := by omega
      have HFN : Hid (∀ d, ChOk d → putC d = l → N = d.length) := Lib.hid (fun d hd hl => by have := (HF.out d hd hl).1; omega)
      have HFA : Hid (∀ d, ChOk d → putC d = l → a = endC d 0) := Lib.hid (fun d hd hl => by have := (HF.out d hd hl).2.1; omega)
      clear HF h32 ho
      go_enter Try.func74, Try.ntmps74
      go_wp2_with fail
      refine HK.out.mono ?_
      rintro e w1 ⟨rfl, rfl⟩
      clear HK
      go_wp2_with fail
      go_loopw [5, 7, 8, 9, 10, 11] (fun v4 v i _ _ _ wr => ∃ (j p : Nat) (us : List Tg), i = .int .i64 j ∧ v4 = .int .i64 (p : Nat) ∧ j ≤ N ∧ Hid (p ≤ l.length) ∧ Hid (us.length = j) ∧ Hid (TOwn w wr v us) ∧ Hid (∀ d, ChOk d → putC d = l → us = d.take j ∧ p = endC d j)) (fun _ _ i _ _ _ _ => N - (intOf i).toNat)
      case atStart => exact ⟨0, a, [], rfl, rfl, by omega, HA, Lib.hid rfl, Lib.hid (TOwn.nil w), Lib.hid (fun d hd hl => ⟨rfl, HFA.out d hd hl⟩)⟩
      case round =>
        obtain ⟨j, p, us, rfl, rfl, hj, hp, hul, hO, hU⟩ := hrel
        by_cases hjn : (j : Int) < N
        · have HNM := Lib.hid (numbers_any ad n c l p wr (HR.out.later hO.out.below) HN.out hlen (by have := hp.out; have := HN.out; omega))
          have HCH : Hid (∀ d, ChOk d → putC d = l → ∃ t', d[j]? = some t' ∧ numsA l p 4 = some ([t'.id.toNat, t'.owner.toNat, t'.heir.toNat, t'.at'.toNat], endC d (j + 1))) := Lib.hid (fun d hd hl => by
            have h1 := HFN.out d hd hl
            have ht : d[j]? = some (d[j]'(by omega)) := List.getElem?_eq_getElem (by omega)
            refine ⟨_, ht, ?_⟩
            rw [(hU.out d hd hl).2, numsA_chain hd hl ht 4 (Nat.le_refl _), endC_succ ht, tagP_four]
            rfl)
          go_wp2_with fail
          refine HNM.out.mono ?_
          rintro e w2 (⟨v2, vs, q2, hA2, rfl, o2, hvl, hq2, hz⟩ | ⟨hA2, rfl, hb2⟩)
          · obtain ⟨x0, x1, x2, x3, rfl⟩ := four hvl
            obtain ⟨a2, c2, rfl, hc4, hcell⟩ := o2.row_n hvl
            obtain ⟨g, rfl, y0⟩ := hcell 0 x0 rfl
            obtain ⟨_, e1, y1⟩ := hcell 1 x1 rfl
            cases e1
            obtain ⟨_, e1, y2⟩ := hcell 2 x2 rfl
            cases e1
            obtain ⟨_, e1, y3⟩ := hcell 3 x3 rfl
            cases e1
            have hb0 := hz x0 (by simp)
            have hb1 := hz x1 (by simp)
            have hb2 := hz x2 (by simp)
            have hb3 := hz x3 (by simp)
            have HTB : Hid (Tg.B ⟨(x0 : Nat), (x1 : Nat), (x2 : Nat), (x3 : Nat)⟩) := Lib.hid (by unfold Tg.B I64; simp only; omega)
            have HQ2 : Hid (q2 ≤ l.length) := Lib.hid hq2
            have HO2 := Lib.hid (hO.out.later o2.2)
            have HU2 : Hid (∀ d, ChOk d → putC d = l → us ++ [⟨(x0 : Nat), (x1 : Nat), (x2 : Nat), (x3 : Nat)⟩] = d.take (j + 1) ∧ q2 = endC d (j + 1)) := Lib.hid (fun d hd hl => by
              obtain ⟨t', ht, hx⟩ := HCH.out d hd hl
              rw [hA2] at hx
              simp only [Option.some.injEq, Prod.mk.injEq, List.cons.injEq, and_true] at hx
              obtain ⟨⟨rfl, rfl, rfl, rfl⟩, rfl⟩ := hx
              have hi := hd.in ht
              unfold Tg.In at hi
              obtain ⟨h, rfl⟩ := List.getElem?_eq_some_iff.1 ht
              refine ⟨?_, rfl⟩
              rw [List.take_succ_eq_append_getElem h, (hU.out d hd hl).1]
              congr 1
              have e : ∀ t : Tg, t.In → (⟨(t.id.toNat : Int), (t.owner.toNat : Int), (t.heir.toNat : Int), (t.at'.toNat : Int)⟩ : Tg) = t := fun t h => by
                obtain ⟨a, b, c, d⟩ := t
                unfold Tg.In at h
                simp only at h
                simp only [Tg.mk.injEq]
                omega
              rw [e _ (hd.in ht)])
            have HUL : Hid ((us ++ [(⟨(x0 : Nat), (x1 : Nat), (x2 : Nat), (x3 : Nat)⟩ : Tg)]).length = j + 1) := Lib.hid (by rw [List.length_append, hul.out]; rfl)
            have HGB : Hid (wr.heap.size ≤ g) := Lib.hid (World.ownsRow.lt o2.1 g rfl).1
            have HNE : Hid (∀ v, TOwn w wr v us → some g ≠ v.ownBlock) := Lib.hid (fun v h e => by
              have := (World.ownsRow.lt h.1 g e.symm).2; have := HGB.out; omega)
            have HY : Hid (∀ W, Below w2.heap.size w2 W → W.cell? ⟨g, 0, none⟩ = some (.int .i64 (x0 : Nat)) ∧ W.cell? ⟨g, 1, none⟩ = some (.int .i64 (x1 : Nat)) ∧ W.cell? ⟨g, 2, none⟩ = some (.int .i64 (x2 : Nat)) ∧ W.cell? ⟨g, 3, none⟩ = some (.int .i64 (x3 : Nat))) := by
              have z0 := y0; have z1 := y1; have z2 := y2; have z3 := y3
              exact Lib.hid (fun W h => ⟨(Below.cell h (World.block_lt_of_cell? _ _ z0)).trans z0, (Below.cell h (World.block_lt_of_cell? _ _ z1)).trans z1, (Below.cell h (World.block_lt_of_cell? _ _ z2)).trans z2, (Below.cell h (World.block_lt_of_cell? _ _ z3)).trans z3⟩)
            have HNV := Lib.hid (HNE.out _ hO.out)
            clear hA2 hvl hq2 hz hcell o2 hO hb0 hb1 hb2 hb3 HNM HNE
            go_upto_region 11 with fail
            go_region_held3 (fun w' => w'.cell? ⟨g, 0, none⟩ = some (.int .i64 (x0 : Nat)) ∧ w'.cell? ⟨g, 1, none⟩ = some (.int .i64 (x1 : Nat)) ∧ w'.cell? ⟨g, 2, none⟩ = some (.int .i64 (x2 : Nat)) ∧ w'.cell? ⟨g, 3, none⟩ = some (.int .i64 (x3 : Nat))) (first | go_keep | exact ⟨g4.cell (HY.out _ ((below_drewN w2 _).alloc (by simp) _)).1 HNV.out, g4.cell (HY.out _ ((below_drewN w2 _).alloc (by simp) _)).2.1 HNV.out, g4.cell (HY.out _ ((below_drewN w2 _).alloc (by simp) _)).2.2.1 HNV.out, g4.cell (HY.out _ ((below_drewN w2 _).alloc (by simp) _)).2.2.2 HNV.out⟩)
              ((refine step_tag (by rfl) _ _ (by rfl) _ us (by rfl) w (HO2.out.later (below_drewN _ _)) ⟨(x0 : Nat), (x1 : Nat), (x2 : Nat), (x3 : Nat)⟩ HTB.out (by rfl) (by rw [hul.out]; omega) ?_; intro v4 w4 o4 g4))
            clear HY y0 y1 y2 y3
            have HO4 := Lib.hid o4
            clear o4 g4
            go_wp2_with fail
            go_roundw
            case rel => exact ⟨j + 1, q2, _, by go_num, rfl, by omega, HQ2, HUL, HO4, HU2⟩
            case measure => simp [intOf]; omega
          · have HG := Lib.hid (get_vain (l := l) fun d hd hl => by
              obtain ⟨t', _, hx⟩ := HCH.out d hd hl
              rw [hA2] at hx; cases hx)
            have HB2 := Lib.hid (hO.out.below.trans (hb2.mono hO.out.below.size))
            clear hA2 hb2
            go_wp2_with fail
            go_ret2
            exact cgot_no HG.out HB2.out
        · have : j = N := by omega
          subst this
          have HG : Hid (GuessC l us) := Lib.hid (fun d hd hl => by rw [(hU.out d hd hl).1, HFN.out d hd hl, List.take_length])
          obtain ⟨a1, c1, rfl, r1⟩ := hO.out.row_n hul.out
          have HO1 := hO
          have HB1 := Lib.hid hO.out.below
          have HP := Lib.hid (chrput_any a1 j c1 us wr r1 hul.out)
          clear r1
          cases hx : rightC us with
          | false =>
            rw [putCh_no hx] at HP
            have HF := Lib.hid (guessC_not HG.out (.inl hx))
            clear hx
            go_wp2_with fail
            refine HP.out.mono ?_
            rintro e w2 ⟨v2, rfl, o2⟩
            have HB2 := Lib.hid (HB1.out.trans (o2.below.mono HB1.out.size))
            clear o2
            go_wp2_with fail
            go_ret2
            exact cgot_no HF.out HB2.out
          | true =>
            rw [putCh_yes hx] at HP
            have HX := Lib.hid hx
            clear hx
            go_wp2_with fail
            refine HP.out.mono ?_
            rintro e w2 ⟨v2, rfl, o2⟩
            obtain ⟨m2, hm2⟩ : ∃ m, (putC us).length = m := ⟨_, rfl⟩
            obtain ⟨a2, c2, rfl, r2⟩ := o2.row_n hm2
            have HB2 := Lib.hid (HB1.out.trans (o2.below.mono HB1.out.size))
            have HO2 := Lib.hid (HO1.out.later o2.below)
            have q1 := conv_row_n r2 hm2
            have q2 := conv_row_n (HR.out.later HB2.out) HN.out
            have HBE : Hid (((⟨(putC us).toArray⟩ : ByteArray) = ⟨l.toArray⟩) ↔ putC us = l) := Lib.hid bytes_eq
            generalize (⟨(putC us).toArray⟩ : ByteArray) = S1 at *
            generalize (⟨l.toArray⟩ : ByteArray) = S2 at *
            clear o2 r2 hm2
            by_cases he : putC us = l
            · have HF := Lib.hid (guessC_yes HX.out he)
              have hd : (S1.toList == S2.toList) = true := (sbeq_iff _ _).2 (HBE.out.2 he)
              have hd2 : (S1.toList != S2.toList) = false := by rw [bne, hd]; rfl
              clear he
              go_wp2_with fail
              go_ret2
              unfold CGot
              rw [HF.out]
              exact ⟨_, rfl, HO2.out⟩
            · have HF := Lib.hid (guessC_not HG.out (.inr he))
              have hd : (S1.toList == S2.toList) = false := sbeq_no fun h => he (HBE.out.1 h)
              have hd2 : (S1.toList != S2.toList) = true := by rw [bne, hd]; rfl
              clear he
              go_wp2_with fail
              go_ret2
              exact cgot_no HF.out HB2.out
end Go.Proofs.Ytiahifpbofkimaa
namespace Go.Proofs.Ytiahifpbofkimaa
open Go.RowKit Go.Proofs
set_option linter.unusedVariables false
set_option linter.unusedSimpArgs false

/-- What grew: a chain that may be, and its end. -/
def GrewP (n : Nat) (w : World) (e : Ending) (w' : World) : Prop := ∃ v ts E, e = .returned (.tuple #[v, .int .i64 E]) ∧ TOwn w w' v ts ∧ Grown ts E n
theorem Grown.more {ts : List Tg} {E : Int} {n m : Nat} (h : Grown ts E n) (hm : n ≤ m) : Grown ts E m := ⟨h.1, h.2.1, h.2.2.1, h.2.2.2.1, h.2.2.2.2.1, by have := h.2.2.2.2.2; omega⟩
set_option maxRecDepth 100000 in
set_option maxHeartbeats 6400000 in
theorem grow_any (ad : Option Addr) (n c : Nat) (zs : List Int) (w : World) (hr : ZRow w ad c zs) (hn : zs.length = n) (hn2 : n ≤ 1000) :
    Calls Try.prog 53 #[.slice ad n c] w (GrewP n w) := by
  have HR := Lib.hid hr
  have HN := Lib.hid hn
  have hc1 := hr.1
  rw [hn] at hc1
  have hcm : c ≤ 9223372036854775807 := by have := hr.2.1; unfold maxLen at this; omega
  have HO : Hid (TOwn w (w.alloc (.cells #[.int .i64 1, .int .i64 1, .int .i64 0, .int .i64 0] 85)) (.slice (some ⟨w.heap.size, 0, none⟩) 1 1) [kTg]) := Lib.hid (TOwn.one (t := kTg) (Below.refl _ _) k_B)
  clear hr hn
  go_enter Try.func53, Try.ntmps53
  go_wp2_with fail
  go_loopw [4, 5, 6, 7, 8] (fun v at' i _ _ wr => ∃ (j m : Nat) (E : Int) (ts : List Tg), i = .int .i64 (j : Nat) ∧ at' = .int .i64 E ∧ j ≤ n ∧ 0 ≤ E ∧ E ≤ 3 * n ∧ Hid (TOwn w wr v ts) ∧ Hid (Grown ts E j)) (fun _ _ i _ _ _ => n - (intOf i).toNat)
  case atStart => exact ⟨0, 1, 0, [kTg], rfl, rfl, by omega, by omega, by omega, HO, Lib.hid grown_one⟩
  case round =>
    obtain ⟨j, _, E, ts, rfl, rfl, hj, hE0, hE3, hO, hG⟩ := hrel
    obtain ⟨m, hm⟩ : ∃ m, ts.length = m := ⟨_, rfl⟩
    obtain ⟨a4, c4, rfl, r4⟩ := hO.out.row_n hm
    have hm20 : m ≤ 20 := by rw [← hm]; exact hG.out.2.1
    have HM := Lib.hid hm
    have HR4 := Lib.hid r4
    clear hm r4
    by_cases hjn : j < n
    · have hd1 : decide (j < n) = true := by simpa using hjn
      by_cases hmn : m < 20
      · have hd2 : decide ((m : Int) < 20) = true := by simp; omega
        obtain ⟨z, hz⟩ : ∃ z, zs[j]? = some z := ⟨zs[j]'(by have := HN.out; omega), List.getElem?_eq_getElem _⟩
        obtain ⟨b0, o0, rfl, p0⟩ := (HR.out.later hO.out.below).at hz
        have hzb := HR.out.2.2.2.1 z (List.mem_of_getElem? hz)
        obtain ⟨d, hd⟩ : ∃ d, bits .and .i64 z 3 = d := ⟨_, rfl⟩
        have hd3 : 0 ≤ d ∧ d ≤ 3 := by rw [← hd]; exact and_range z 3 (by decide)
        obtain ⟨d4, hd4⟩ : ∃ d, bits .and .i64 z 4 = d := ⟨_, rfl⟩
        obtain ⟨d1, hd1'⟩ : ∃ d, bits .and .i64 (z / 8) 1 = d := ⟨_, rfl⟩
        have hd11 : 0 ≤ d1 ∧ d1 ≤ 1 := by rw [← hd1']; exact and_range _ 1 (by decide)
        obtain ⟨d16, hd16⟩ : ∃ d, bits .and .i64 z 16 = d := ⟨_, rfl⟩
        have hE3' : E + d ≤ 3 * n := by have := hG.out.2.2.2.2.2; omega
        have HG2 := Lib.hid (hG.out.on hd3.1 hd3.2)
        clear hz
        by_cases h4 : d4 = 0
        · have h4b : (d4 == 0) = true := by simpa using h4
          clear h4
          go_wp2_with fail
          go_roundw
          case rel => exact ⟨j + 1, 0, E + d, ts, by go_num, rfl, by omega, by omega, by omega, hO, HG2⟩
          case measure => simp [intOf]; omega
        · have h4b : (d4 == 0) = false := by simpa using h4
          clear h4
          obtain ⟨N, hNN⟩ : ∃ N, nextC ts (1 + d1) = N := ⟨_, rfl⟩
          have hN1 : 1 ≤ N ∧ N ≤ 1000 := by
            have h1 := next_above hG.out.ids (1 + d1)
            have h2 : nextMost ts ≤ 2 * ts.length := foldl_top ts 0 _ (by omega) hG.out.2.2.1
            have h3 := HM.out
            rw [hNN] at h1
            omega
          by_cases h16 : d16 = 0
          · have h16b : (d16 != 0) = false := by simpa using h16
            clear h16
            go_wp2_with fail
            refine (chrnext_any a4 m c4 ts (1 + d1) wr HR4.out HM.out).mono ?_
            rw [hNN]
            rintro e w1 ⟨rfl, rfl⟩
            have p0' : (wr.alloc (.cells #[.int .i64 N, .int .i64 (1 + d1), .int .i64 0, .int .i64 (E + d)] 85)).cell? ⟨b0, o0 + j, none⟩ = some (.int .i64 z) := by
              rw [((Below.refl _ _).alloc (Nat.le_refl _) _ : Below wr.heap.size wr _).cell (World.block_lt_of_cell? wr _ p0)]; exact p0
            have HTB : Hid (Tg.B ⟨N, 1 + d1, 0, E + d⟩) := Lib.hid (by unfold Tg.B I64; simp only; omega)
            have HO1 := Lib.hid (hO.out.later ((Below.refl _ _).alloc (Nat.le_refl _) (.cells #[.int .i64 N, .int .i64 (1 + d1), .int .i64 (0), .int .i64 (E + d)] 85)))
            have HG3 : Hid (Grown (ts ++ [⟨N, 1 + d1, 0, E + d⟩]) (E + d) (j + 1)) := Lib.hid (by
              rw [← hNN]
              exact HG2.out.tag (by rw [HM.out]; exact hmn) (by omega) (site := 1 + d1) (o := 1 + d1) (hr := 0) (by omega) (by omega) (by omega))
            clear hNN
            have HX5 := Lib.hid (RecAt.new wr #[.int .i64 N, .int .i64 (1 + d1), .int .i64 0, .int .i64 (E + d)] 85)
            go_upto_region 12 with fail
            generalize (wr.alloc (.cells #[.int .i64 N, .int .i64 (1 + d1), .int .i64 0, .int .i64 (E + d)] 85)) = w5 at *
            generalize wr.heap.size = p5 at *
            obtain ⟨x0, x1, x2, x3⟩ := HX5.out.c4
            go_wp2_with (at_builtin; refine wp_tag rfl _ _ rfl _ _ rfl w HO1.out ⟨N, 1 + d1, 0, E + d⟩ HTB.out rfl (by rw [HM.out]; omega) ?_; intro v2 w2 o2 hgr)
            try clear hgr
            have HO2 := Lib.hid o2
            clear o2
            go_wp2_with fail
            go_roundw
            case rel => exact ⟨j + 1, 0, E + d, _, by go_num, rfl, by omega, by omega, by omega, HO2, HG3⟩
            case measure => simp [intOf]; omega
          · have h16b : (d16 != 0) = true := by simpa using h16
            clear h16
            go_wp2_with fail
            refine (chrnext_any a4 m c4 ts (1 + d1) wr HR4.out HM.out).mono ?_
            rw [hNN]
            rintro e w1 ⟨rfl, rfl⟩
            have p0' : (wr.alloc (.cells #[.int .i64 N, .int .i64 (1 + d1), .int .i64 0, .int .i64 (E + d)] 85)).cell? ⟨b0, o0 + j, none⟩ = some (.int .i64 z) := by
              rw [((Below.refl _ _).alloc (Nat.le_refl _) _ : Below wr.heap.size wr _).cell (World.block_lt_of_cell? wr _ p0)]; exact p0
            have HTB : Hid (Tg.B ⟨N, 0, 3 - (1 + d1), E + d⟩) := Lib.hid (by unfold Tg.B I64; simp only; omega)
            have HO1 := Lib.hid (hO.out.later ((Below.refl _ _).alloc (Nat.le_refl _) (.cells #[.int .i64 N, .int .i64 (0), .int .i64 (3 - (1 + d1)), .int .i64 (E + d)] 85)))
            have HG3 : Hid (Grown (ts ++ [⟨N, 0, 3 - (1 + d1), E + d⟩]) (E + d) (j + 1)) := Lib.hid (by
              rw [← hNN]
              exact HG2.out.tag (by rw [HM.out]; exact hmn) (by omega) (site := 1 + d1) (o := 0) (hr := 3 - (1 + d1)) (by omega) (by omega) (by omega))
            clear hNN
            have HX5 := Lib.hid (RecAt.new wr #[.int .i64 N, .int .i64 0, .int .i64 (3 - (1 + d1)), .int .i64 (E + d)] 85)
            go_upto_region 12 with fail
            generalize (wr.alloc (.cells #[.int .i64 N, .int .i64 0, .int .i64 (3 - (1 + d1)), .int .i64 (E + d)] 85)) = w5 at *
            generalize wr.heap.size = p5 at *
            obtain ⟨x0, x1, x2, x3⟩ := HX5.out.c4
            go_wp2_with (at_builtin; refine wp_tag rfl _ _ rfl _ _ rfl w HO1.out ⟨N, 0, 3 - (1 + d1), E + d⟩ HTB.out rfl (by rw [HM.out]; omega) ?_; intro v2 w2 o2 hgr)
            try clear hgr
            have HO2 := Lib.hid o2
            clear o2
            go_wp2_with fail
            go_roundw
            case rel => exact ⟨j + 1, 0, E + d, _, by go_num, rfl, by omega, by omega, by omega, HO2, HG3⟩
            case measure => simp [intOf]; omega
      · have hd2 : decide ((m : Int) < 20) = false := by simp; omega
        have HGN := Lib.hid (hG.out.more (Nat.le_of_lt hjn))
        go_wp2_with fail
        go_ret2
        exact ⟨_, _, _, rfl, hO.out, HGN.out⟩
    · have hd1 : decide (j < n) = false := by simpa using hjn
      have HGN := Lib.hid (hG.out.more hj)
      go_wp2_with fail
      go_ret2
      exact ⟨_, _, _, rfl, hO.out, HGN.out⟩
end Go.Proofs.Ytiahifpbofkimaa
