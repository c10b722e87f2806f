/- Chains: what bytes are: the program's own. -/
import Derived.Test.YtpeamfndanbhiaaChG
import Derived.Test.YtpeamfndanbhiaaGetP
import Derived.Test.YtpeamfndanbhiaaBy
namespace Go.Proofs.Ytpeamfndanbhiaa
open Go.RowKit Go.Proofs
set_option linter.unusedVariables false
set_option linter.unusedSimpArgs false

/-! ### what is known of the tag under way -/
def setN (t : Tg) (k : Nat) (o : Int) : Tg := match k with
  | 0 => ⟨o, t.owner, t.heir, t.at'⟩
  | 1 => ⟨t.id, o, t.heir, t.at'⟩
  | 2 => ⟨t.id, t.owner, o, t.at'⟩
  | _ => ⟨t.id, t.owner, t.heir, o⟩
theorem tagN_set {t : Tg} {o : Int} : ∀ {k : Nat}, k < 4 → tagN (setN t k o) k = o ∧ ∀ i, i < k → tagN (setN t k o) i = tagN t i
  | 0, _ => ⟨rfl, fun i h => absurd h (by omega)⟩
  | 1, _ => ⟨rfl, fun i h => by match i, h with | 0, _ => rfl⟩
  | 2, _ => ⟨rfl, fun i h => by match i, h with | 0, _ => rfl | 1, _ => rfl⟩
  | 3, _ => ⟨rfl, fun i h => by match i, h with | 0, _ => rfl | 1, _ => rfl | 2, _ => rfl⟩
theorem tagL_drop {t : Tg} (x : List UInt8) : ∀ {k : Nat}, k < 4 → ∃ y, (tagL t ++ x).drop (tagP t k).length = varL (tagN t k).toNat ++ y
  | 0, _ => ⟨_, by simp only [tagP, List.length_nil, List.drop_zero, tagL, List.append_assoc]; rfl⟩
  | 1, _ => ⟨varL t.heir.toNat ++ (varL t.at'.toNat ++ x), by
    have : tagL t ++ x = tagP t 1 ++ (varL (tagN t 1).toNat ++ (varL t.heir.toNat ++ (varL t.at'.toNat ++ x))) := by simp [tagL, tagP, tagN]
    rw [this, List.drop_left]⟩
  | 2, _ => ⟨varL t.at'.toNat ++ x, by
    have : tagL t ++ x = tagP t 2 ++ (varL (tagN t 2).toNat ++ (varL t.at'.toNat ++ x)) := by simp [tagL, tagP, tagN]
    rw [this, List.drop_left]⟩
  | 3, _ => ⟨x, by
    have : tagL t ++ x = tagP t 3 ++ (varL (tagN t 3).toNat ++ x) := by simp [tagL, tagP, tagN]
    rw [this, List.drop_left]⟩
theorem tagN_in {t : Tg} (h : t.In) (k : Nat) : 0 ≤ tagN t k ∧ tagN t k < 9223372036854775808 := by
  unfold Tg.In at h
  unfold tagN
  split <;> omega
/-- One number more is known of every chain whose bytes these are. -/
theorem chain_step {l : List UInt8} {d : List Tg} {j k p a : Nat} {t' : Tg} {o : Int} {z : Bool} (hd : ChOk d) (hl : putC d = l) (ht : d[j]? = some t') (hk : k < 4) (hp : p = endC d j + (tagP t' k).length)
    (hg : getVA l ((p : Nat) : Int) = (o, ((a : Nat) : Int), z)) : o = tagN t' k ∧ a = endC d j + (tagP t' (k + 1)).length ∧ z = true := by
  have h1 := endC_drop d j
  rw [hl, rowC_drop ht] at h1
  obtain ⟨y, hy⟩ := tagL_drop (t := t') (rowC (d.drop (j + 1))) hk
  have h2 : l.drop p = varL (tagN t' k).toNat ++ y := by rw [hp, ← List.drop_drop, h1, hy]
  have h3 := tagP_le t' k (by omega)
  have h4 := endC_succ ht
  have h5 := endC_le d (j + 1)
  rw [hl] at h5
  have h6 := tagN_in (hd.in ht) k
  have h7 := getVA_put hg (by omega) h2 (by omega)
  refine ⟨by omega, ?_, h7.2.2⟩
  have : (tagP t' (k + 1)).length = (tagP t' k).length + (varL (tagN t' k).toNat).length := by simp [tagP]
  omega
def GI (l : List UInt8) (j : Nat) (w3 wr : World) (x : Nat) (v4 : Value) (k : Nat) : Prop :=
  ∃ (t : Tg) (p : Nat), v4 = .int .i64 (p : Nat) ∧ p ≤ l.length ∧ RecAt wr x #[.int .i64 t.id, .int .i64 t.owner, .int .i64 t.heir, .int .i64 t.at'] 43 ∧ t.B ∧ Below w3.heap.size w3 wr ∧
    ∀ d t', ChOk d → putC d = l → d[j]? = some t' → (∀ i, i < k → tagN t i = tagN t' i) ∧ p = endC d j + (tagP t' k).length
theorem gi_step {l : List UInt8} {j k p a x : Nat} {w3 wr : World} {t : Tg} {o : Int} {z : Bool} (hk : k < 4) (ha : a ≤ l.length) (hx : w3.heap.size ≤ x) (hr : RecAt wr x #[.int .i64 t.id, .int .i64 t.owner, .int .i64 t.heir, .int .i64 t.at'] 43) (htb : t.B) (hb : Below w3.heap.size w3 wr)
    (hq : ∀ d t', ChOk d → putC d = l → d[j]? = some t' → (∀ i, i < k → tagN t i = tagN t' i) ∧ p = endC d j + (tagP t' k).length) (hg : getVA l ((p : Nat) : Int) = (o, ((a : Nat) : Int), z)) :
    GI l j w3 (wr.setCell ⟨x, k, none⟩ (.int .i64 o)) x (.int .i64 (a : Nat)) (k + 1) := by
  refine ⟨setN t k o, a, rfl, ha, ?_, ?_, hb.setCell (p := ⟨x, k, none⟩) hx _, fun d t' hd hl ht => ?_⟩
  · have := hr.set k (.int .i64 o)
    match k, hk, this with
    | 0, _, this => simpa [setN] using this
    | 1, _, this => simpa [setN] using this
    | 2, _, this => simpa [setN] using this
    | 3, _, this => simpa [setN] using this
  · have h1 := getVA_nat hg
    unfold Tg.B I64 at htb ⊢
    match k, hk with
    | 0, _ => simp only [setN]; omega
    | 1, _ => simp only [setN]; omega
    | 2, _ => simp only [setN]; omega
    | 3, _ => simp only [setN]; omega
  · obtain ⟨h1, h2⟩ := hq d t' hd hl ht
    obtain ⟨h3, h4, _⟩ := chain_step hd hl ht hk h2 hg
    refine ⟨fun i hi => ?_, h4⟩
    by_cases e : i = k
    · subst e; rw [(tagN_set hk).1, h3]
    · rw [(tagN_set hk).2 i (by omega)]; exact h1 i (by omega)
theorem run_ixp4 (W : World) (a b c d : Option Addr) (k : Nat) (v : Option Addr) (h : [a, b, c, d][k]? = some v) : (Instr.index 65 (.agg #[.pointer a, .pointer b, .pointer c, .pointer d]) (.int .i64 (k : Nat))).run Try.prog W = .ok (.pointer v) W := by
  have u3 := Try.underlying64
  have a3 := Try.isAgg64
  have z3 := Try.sizeOf64
  match k, h with
  | 0, h => simp at h; subst h; simp [Instr.index, asIntOf, run_underlying Try.underlying65, go_sem, a3, z3]
  | 1, h => simp at h; subst h; simp [Instr.index, asIntOf, run_underlying Try.underlying65, go_sem, a3, z3]
  | 2, h => simp at h; subst h; simp [Instr.index, asIntOf, run_underlying Try.underlying65, go_sem, a3, z3]
  | 3, h => simp at h; subst h; simp [Instr.index, asIntOf, run_underlying Try.underlying65, go_sem, a3, z3]
  | k + 4, h => simp at h
/-- The tag is whole: so far every chain whose bytes these are goes along. -/
theorem tag_eq {t u : Tg} (h : ∀ i, i < 4 → tagN t i = tagN u i) : t = u := by
  obtain ⟨a, b, c, d⟩ := t
  obtain ⟨e, f, g, i⟩ := u
  have h0 := h 0 (by omega); have h1 := h 1 (by omega); have h2 := h 2 (by omega); have h3 := h 3 (by omega)
  simp only [tagN] at h0 h1 h2 h3
  rw [h0, h1, h2, h3]
theorem gi_end {l : List UInt8} {j p : Nat} {t : Tg} {us : List Tg} (hq : ∀ d t', ChOk d → putC d = l → d[j]? = some t' → (∀ i, i < 4 → tagN t i = tagN t' i) ∧ p = endC d j + (tagP t' 4).length)
    (hu : ∀ d, ChOk d → putC d = l → us = d.take j) (hn : ∀ d, ChOk d → putC d = l → j < d.length) : ∀ d, ChOk d → putC d = l → us ++ [t] = d.take (j + 1) ∧ p = endC d (j + 1) := fun d hd hl => by
  have hj := hn d hd hl
  have ht : d[j]? = some d[j] := List.getElem?_eq_getElem hj
  obtain ⟨h1, h2⟩ := hq d _ hd hl ht
  rw [hu d hd hl, tag_eq h1]
  exact ⟨(List.take_succ_eq_append_getElem hj).symm, by rw [h2, endC_succ ht, tagP_four]⟩
def CGuess (l : List UInt8) (w : World) (e : Ending) (w' : World) : Prop := ∃ v ts, e = .returned v ∧ TOwn w w' v ts ∧ ts.length ≤ 32 ∧ GuessC l ts
theorem first_num {l : List UInt8} {o q : Int} {z : Bool} (hg : getVA l 0 = (o, q, z)) : ∀ d : List Tg, ChOk d → putC d = l → o = d.length ∧ q = (endC d 0 : Nat) ∧ z = true := fun d hd hl => by
  have h1 := hd.2.1
  have := getVA_put (q := 0) (d := d.length) (x := rowC d) hg (Nat.zero_le _) (by rw [List.drop_zero, ← hl]; rfl) (by omega)
  rw [endC_zero]
  exact ⟨this.1, by rw [this.2.1]; simp, this.2.2⟩

set_option maxRecDepth 100000 in
set_option maxHeartbeats 6400000 in
theorem guess_any (ad : Option Addr) (n c : Nat) (l : List UInt8) (w : World) (hr : Row w ad c l) (hn : l.length = n) (hlen : n ≤ 100000) :
    Calls Try.prog 34 #[.slice ad n c] w (CGuess l w) := by
  have HR := Lib.hid hr
  have HN := Lib.hid hn
  obtain ⟨o, q, z, hg⟩ : ∃ o q z, getVA l 0 = (o, q, z) := ⟨_, _, _, rfl⟩
  have hpl := getVA_place hg (by decide)
  obtain ⟨a, rfl, ha⟩ := hpl
  have ho := getVA_nat hg
  have HF := Lib.hid (first_num hg)
  have HK := Lib.hid (getvar_any ad n c l 0 w hr hn hlen (by decide) (by decide))
  rw [hg] at HK
  simp only [Got3] at HK
  have HA : Hid (a ≤ l.length) := Lib.hid ha
  clear hr hn hg ha
  by_cases h32 : 32 < o
  · have HG : Hid (GuessC l []) := Lib.hid (fun d hd hl => by have h1 := (HF.out d hd hl).1; have := hd.2.1; omega)
    go_enter Try.func34, Try.ntmps34
    go_wp2_with fail
    refine HK.out.mono ?_
    rintro e w1 ⟨rfl, rfl⟩
    go_wp2_with fail
    go_ret
    exact ⟨_, _, rfl, TOwn.nil w, by simp, HG.out⟩
  · obtain ⟨N, hN⟩ : ∃ N : Nat, o = N := ⟨o.toNat, by omega⟩
    subst hN
    have hN32 : N ≤ 32 := by omega
    have HFN : Hid (∀ d, ChOk d → putC d = l → N = d.length) := Lib.hid (fun d hd hl => by have := (HF.out d hd hl).1; omega)
    have HFA : Hid (∀ d, ChOk d → putC d = l → a = endC d 0) := Lib.hid (fun d hd hl => by have := (HF.out d hd hl).2.1; omega)
    clear HF h32 ho
    go_enter Try.func34, Try.ntmps34
    go_wp2_with fail
    refine HK.out.mono ?_
    rintro e w1 ⟨rfl, rfl⟩
    clear HK
    go_wp2_with fail
    go_loopw [4, 6, 7, 9, 19] (fun v4 v _ _ i wr => ∃ (j p : Nat) (us : List Tg), i = .int .i64 j ∧ v4 = .int .i64 (p : Nat) ∧ j ≤ N ∧ Hid (p ≤ l.length) ∧ Hid (us.length = j) ∧ Hid (TOwn w wr v us) ∧ Hid (∀ d, ChOk d → putC d = l → us = d.take j ∧ p = endC d j)) (fun _ _ _ _ i _ => N - (intOf i).toNat)
    case atStart => exact ⟨0, a, [], rfl, rfl, by omega, HA, Lib.hid rfl, Lib.hid (TOwn.nil w), Lib.hid (fun d hd hl => ⟨rfl, HFA.out d hd hl⟩)⟩
    case round =>
      obtain ⟨j, p, us, rfl, rfl, hj, hp, hul, hO, hU⟩ := hrel
      by_cases hjn : (j : Int) < N
      · have hba : Below wr.heap.size wr (wr.alloc (.cells #[.int .i64 0, .int .i64 0, .int .i64 0, .int .i64 0] 43)) := (Below.refl _ _).alloc (Nat.le_refl _) _
        have HX0 := Lib.hid (RecAt.new wr #[.int .i64 0, .int .i64 0, .int .i64 0, .int .i64 0] 43)
        have HGI : Hid (GI l j wr (wr.alloc (.cells #[.int .i64 0, .int .i64 0, .int .i64 0, .int .i64 0] 43)) wr.heap.size (.int .i64 (p : Nat)) 0) := Lib.hid ⟨⟨0, 0, 0, 0⟩, p, rfl, hp.out, HX0.out, by unfold Tg.B I64; simp only; omega, hba, fun d t' hd hl ht => ⟨fun i hi => absurd hi (by omega), by rw [(hU.out d hd hl).2]; rfl⟩⟩
        have HRW := Lib.hid (fun W (h : Below wr.heap.size wr W) => (HR.out.later hO.out.below).later h)
        have HXL : Hid (wr.heap.size ≤ wr.heap.size) := Lib.hid (Nat.le_refl _)
        clear hba HX0
        go_upto_region 8 with fail
        generalize hw4 : (wr.alloc (.cells #[.int .i64 0, .int .i64 0, .int .i64 0, .int .i64 0] 43)) = w4 at *
        obtain ⟨p4, hp4⟩ : ∃ x, wr.heap.size = x := ⟨_, rfl⟩
        have HP4 := Lib.hid hp4
        rw [hp4] at HGI ⊢
        clear hw4 hp4
        go_wp2_with fail
        go_loopw [4, 9, 26] (fun v4 _ i wq => (i = .int .i64 0 ∧ Hid (GI l j wr wq p4 v4 0)) ∨ (i = .int .i64 1 ∧ Hid (GI l j wr wq p4 v4 1)) ∨ (i = .int .i64 2 ∧ Hid (GI l j wr wq p4 v4 2)) ∨ (i = .int .i64 3 ∧ Hid (GI l j wr wq p4 v4 3)) ∨ (i = .int .i64 4 ∧ Hid (GI l j wr wq p4 v4 4))) (fun _ _ i _ => 4 - (intOf i).toNat)
        case atStart => exact .inl ⟨rfl, HGI⟩
        case round =>
          clear HGI
          rcases hrel with ⟨rfl, hG⟩ | ⟨rfl, hG⟩ | ⟨rfl, hG⟩ | ⟨rfl, hG⟩ | ⟨rfl, hG⟩
          · obtain ⟨t, p2, rfl, hp2, hx2, htb, hb2, hq2⟩ := hG.out
            obtain ⟨o2, q2, z2, hg2⟩ : ∃ o q z, getVA l ((p2 : Nat) : Int) = (o, q, z) := ⟨_, _, _, rfl⟩
            obtain ⟨a2, rfl, ha2⟩ := getVA_place hg2 (Int.natCast_nonneg _)
            have HG2 := Lib.hid (gi_step (k := 0) (by decide) ha2 (Nat.le_of_eq HP4.out) hx2 htb hb2 hq2 hg2)
            have HK2 := Lib.hid (getvar_any ad n c l ((p2 : Nat) : Int) _ (HRW.out _ hb2) HN.out hlen (by omega) (by have := HN.out; omega))
            rw [hg2] at HK2
            simp only [Got3] at HK2
            have hix : ∀ W, (Instr.index 65 (.agg #[.pointer (some ⟨p4, 0, none⟩), .pointer (some ⟨p4, 1, none⟩), .pointer (some ⟨p4, 2, none⟩), .pointer (some ⟨p4, 3, none⟩)]) (.int .i64 0)).run Try.prog W = .ok (.pointer (some ⟨p4, 0, none⟩)) W := fun W => run_ixp4 W _ _ _ _ 0 _ rfl
            obtain ⟨x0, x1, x2, x3⟩ := hx2.c4
            obtain ⟨f0, f1, f2, f3⟩ := hx2.f4
            clear hp2 hx2 htb hb2 hq2 hg2 ha2 hG
            go_wp2_with fail
            refine HK2.out.mono ?_
            rintro e w5 ⟨rfl, rfl⟩
            go_wp2_with fail
            go_roundw
            case rel => exact .inr (.inl ⟨rfl, HG2⟩)
            case measure => simp [intOf]
          · obtain ⟨t, p2, rfl, hp2, hx2, htb, hb2, hq2⟩ := hG.out
            obtain ⟨o2, q2, z2, hg2⟩ : ∃ o q z, getVA l ((p2 : Nat) : Int) = (o, q, z) := ⟨_, _, _, rfl⟩
            obtain ⟨a2, rfl, ha2⟩ := getVA_place hg2 (Int.natCast_nonneg _)
            have HG2 := Lib.hid (gi_step (k := 1) (by decide) ha2 (Nat.le_of_eq HP4.out) hx2 htb hb2 hq2 hg2)
            have HK2 := Lib.hid (getvar_any ad n c l ((p2 : Nat) : Int) _ (HRW.out _ hb2) HN.out hlen (by omega) (by have := HN.out; omega))
            rw [hg2] at HK2
            simp only [Got3] at HK2
            have hix : ∀ W, (Instr.index 65 (.agg #[.pointer (some ⟨p4, 0, none⟩), .pointer (some ⟨p4, 1, none⟩), .pointer (some ⟨p4, 2, none⟩), .pointer (some ⟨p4, 3, none⟩)]) (.int .i64 1)).run Try.prog W = .ok (.pointer (some ⟨p4, 1, none⟩)) W := fun W => run_ixp4 W _ _ _ _ 1 _ rfl
            obtain ⟨x0, x1, x2, x3⟩ := hx2.c4
            obtain ⟨f0, f1, f2, f3⟩ := hx2.f4
            clear hp2 hx2 htb hb2 hq2 hg2 ha2 hG
            go_wp2_with fail
            refine HK2.out.mono ?_
            rintro e w5 ⟨rfl, rfl⟩
            go_wp2_with fail
            go_roundw
            case rel => exact .inr (.inr (.inl ⟨rfl, HG2⟩))
            case measure => simp [intOf]
          · obtain ⟨t, p2, rfl, hp2, hx2, htb, hb2, hq2⟩ := hG.out
            obtain ⟨o2, q2, z2, hg2⟩ : ∃ o q z, getVA l ((p2 : Nat) : Int) = (o, q, z) := ⟨_, _, _, rfl⟩
            obtain ⟨a2, rfl, ha2⟩ := getVA_place hg2 (Int.natCast_nonneg _)
            have HG2 := Lib.hid (gi_step (k := 2) (by decide) ha2 (Nat.le_of_eq HP4.out) hx2 htb hb2 hq2 hg2)
            have HK2 := Lib.hid (getvar_any ad n c l ((p2 : Nat) : Int) _ (HRW.out _ hb2) HN.out hlen (by omega) (by have := HN.out; omega))
            rw [hg2] at HK2
            simp only [Got3] at HK2
            have hix : ∀ W, (Instr.index 65 (.agg #[.pointer (some ⟨p4, 0, none⟩), .pointer (some ⟨p4, 1, none⟩), .pointer (some ⟨p4, 2, none⟩), .pointer (some ⟨p4, 3, none⟩)]) (.int .i64 2)).run Try.prog W = .ok (.pointer (some ⟨p4, 2, none⟩)) W := fun W => run_ixp4 W _ _ _ _ 2 _ rfl
            obtain ⟨x0, x1, x2, x3⟩ := hx2.c4
            obtain ⟨f0, f1, f2, f3⟩ := hx2.f4
            clear hp2 hx2 htb hb2 hq2 hg2 ha2 hG
            go_wp2_with fail
            refine HK2.out.mono ?_
            rintro e w5 ⟨rfl, rfl⟩
            go_wp2_with fail
            go_roundw
            case rel => exact .inr (.inr (.inr (.inl ⟨rfl, HG2⟩)))
            case measure => simp [intOf]
          · obtain ⟨t, p2, rfl, hp2, hx2, htb, hb2, hq2⟩ := hG.out
            obtain ⟨o2, q2, z2, hg2⟩ : ∃ o q z, getVA l ((p2 : Nat) : Int) = (o, q, z) := ⟨_, _, _, rfl⟩
            obtain ⟨a2, rfl, ha2⟩ := getVA_place hg2 (Int.natCast_nonneg _)
            have HG2 := Lib.hid (gi_step (k := 3) (by decide) ha2 (Nat.le_of_eq HP4.out) hx2 htb hb2 hq2 hg2)
            have HK2 := Lib.hid (getvar_any ad n c l ((p2 : Nat) : Int) _ (HRW.out _ hb2) HN.out hlen (by omega) (by have := HN.out; omega))
            rw [hg2] at HK2
            simp only [Got3] at HK2
            have hix : ∀ W, (Instr.index 65 (.agg #[.pointer (some ⟨p4, 0, none⟩), .pointer (some ⟨p4, 1, none⟩), .pointer (some ⟨p4, 2, none⟩), .pointer (some ⟨p4, 3, none⟩)]) (.int .i64 3)).run Try.prog W = .ok (.pointer (some ⟨p4, 3, none⟩)) W := fun W => run_ixp4 W _ _ _ _ 3 _ rfl
            obtain ⟨x0, x1, x2, x3⟩ := hx2.c4
            obtain ⟨f0, f1, f2, f3⟩ := hx2.f4
            clear hp2 hx2 htb hb2 hq2 hg2 ha2 hG
            go_wp2_with fail
            refine HK2.out.mono ?_
            rintro e w5 ⟨rfl, rfl⟩
            go_wp2_with fail
            go_roundw
            case rel => exact .inr (.inr (.inr (.inr ⟨rfl, HG2⟩)))
            case measure => simp [intOf]
          · obtain ⟨t, p2, rfl, hp2, hx2, htb, hb2, hq2⟩ := hG.out
            have HU2 := Lib.hid (gi_end hq2 (fun d hd hl => (hU.out d hd hl).1) (fun d hd hl => by have := HFN.out d hd hl; omega))
            have HP2 := Lib.hid hp2
            have HTB := Lib.hid htb
            have HO2 := Lib.hid (hO.out.later hb2)
            have HUL : Hid ((us ++ [t]).length = j + 1) := Lib.hid (by rw [List.length_append, hul.out]; rfl)
            obtain ⟨x0, x1, x2, x3⟩ := hx2.c4
            clear hp2 hx2 htb hb2 hq2 hG hO
            go_wp2_with (at_builtin; refine wp_tag rfl _ _ rfl _ _ rfl w HO2.out t HTB.out rfl (by rw [hul.out]; omega) ?_; intro v2 w2 o2 hgr)
            clear hgr
            have HO3 := Lib.hid o2
            clear o2
            go_wp2_with fail
            go_roundw
            case rel => exact ⟨j + 1, p2, us ++ [t], by go_num, rfl, by omega, HP2, HUL, HO3, HU2⟩
            case measure => simp [intOf]; omega
      · have : j = N := by omega
        subst this
        have HG : Hid (GuessC l us) := Lib.hid (fun d hd hl => by rw [(hU.out d hd hl).1, HFN.out d hd hl, List.take_length])
        go_wp2_with fail
        go_ret
        exact ⟨_, _, rfl, hO.out, by have := hul.out; omega, HG.out⟩
/-- What is got, and why not. -/
def CGot (l : List UInt8) (w : World) (e : Ending) (w' : World) : Prop := ∃ v, e = .returned (.tuple #[v, .int .i64 (getCh l).2]) ∧ TOwn w w' v (getCh l).1
theorem cgot_no {l : List UInt8} {w w' : World} (h : getCh l = ([], 2)) (hb : Below w.heap.size w w') : CGot l w (.returned (.tuple #[.slice none 0 0, .int .i64 2])) w' := by
  unfold CGot; rw [h]
  exact ⟨_, rfl, World.ownsRow_nil _ _ _ _, hb, fun t h => by cases h⟩
set_option maxHeartbeats 1600000 in
theorem get_any (ad : Option Addr) (n c : Nat) (l : List UInt8) (w : World) (hr : Row w ad c l) (hn : l.length = n) (hlen : n ≤ 100000) :
    Calls Try.prog 13 #[.slice ad n c] w (CGot l w) := by
  have HR := Lib.hid hr
  have HN := Lib.hid hn
  have HK := Lib.hid (guess_any ad n c l w hr hn hlen)
  clear hr hn
  go_enter Try.func13, Try.ntmps13
  go_wp2_with fail
  refine HK.out.mono ?_
  rintro e w1 ⟨v, us, rfl, o1, h32, hg⟩
  obtain ⟨m, hm⟩ : ∃ m, us.length = m := ⟨_, rfl⟩
  obtain ⟨a1, c1, rfl, r1⟩ := o1.row_n hm
  have HO1 := Lib.hid o1
  have HB1 := Lib.hid o1.below
  have HG := Lib.hid hg
  have HP := Lib.hid (put_any a1 m c1 us w1 r1 hm)
  clear HK o1 hg r1 h32 hm
  cases hx : rightC us with
  | false =>
    rw [putCh_no hx] at HP
    have HF := Lib.hid (guessC_not HG.out (.inl hx))
    clear hx
    go_wp2_with fail
    refine HP.out.mono ?_
    rintro e w2 ⟨v2, rfl, o2⟩
    have HB2 := Lib.hid (HB1.out.trans (o2.below.mono HB1.out.size))
    clear o2
    go_wp2_with fail
    go_ret2
    exact cgot_no HF.out HB2.out
  | true =>
    rw [putCh_yes hx] at HP
    have HX := Lib.hid hx
    clear hx
    go_wp2_with fail
    refine HP.out.mono ?_
    rintro e w2 ⟨v2, rfl, o2⟩
    obtain ⟨m2, hm2⟩ : ∃ m, (putC us).length = m := ⟨_, rfl⟩
    obtain ⟨a2, c2, rfl, r2⟩ := o2.row_n hm2
    have HB2 := Lib.hid (HB1.out.trans (o2.below.mono HB1.out.size))
    have HO2 := Lib.hid (HO1.out.later o2.below)
    have HE := Lib.hid (equal_any a2 ad m2 n c2 c (putC us) l w2 r2 (HR.out.later HB2.out) hm2 HN.out)
    clear o2 r2 hm2
    by_cases he : putC us = l
    · have HF := Lib.hid (guessC_yes HX.out he)
      have hd : decide (putC us = l) = true := by simpa using he
      rw [hd] at HE
      clear he hd
      go_wp2_with (go_at_call 35; refine HE.out.mono ?_; rintro e w3 ⟨rfl, rfl⟩)
      go_ret2
      unfold CGot
      rw [HF.out]
      exact ⟨_, rfl, HO2.out⟩
    · have HF := Lib.hid (guessC_not HG.out (.inr he))
      have hd : decide (putC us = l) = false := by simpa using he
      rw [hd] at HE
      clear he hd
      go_wp2_with (go_at_call 35; refine HE.out.mono ?_; rintro e w3 ⟨rfl, rfl⟩)
      go_ret2
      exact cgot_no HF.out HB2.out
end Go.Proofs.Ytpeamfndanbhiaa
