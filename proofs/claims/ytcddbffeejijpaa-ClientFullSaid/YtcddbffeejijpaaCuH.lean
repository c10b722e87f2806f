/- Clients: what bytes are: the program's own. -/
import Derived.Test.YtcddbffeejijpaaCuG
import Derived.Test.YtcddbffeejijpaaGetP
import Derived.Test.YtcddbffeejijpaaBy
namespace Go.Proofs.Ytcddbffeejijpaa
open Go.RowKit Go.Proofs
set_option linter.unusedVariables false
set_option linter.unusedSimpArgs false
set_option linter.unnecessarySimpa false

/-! ### a client's three numbers -/
theorem natInt (n : Nat) : ((n : Nat) : Int).toNat = n := rfl
theorem cu_step {l : List UInt8} {d : List Cu} {j p a1 a2 a3 : Nat} {t : Cu} {o1 o2 o3 : Int} {z1 z2 z3 : Bool} (hd : CuOk d) (hl : putU d = l) (ht : d[j]? = some t) (hp : p = endU d j)
    (h1 : getVA l ((p : Nat) : Int) = (o1, ((a1 : Nat) : Int), z1)) (h2 : getVA l ((a1 : Nat) : Int) = (o2, ((a2 : Nat) : Int), z2)) (h3 : getVA l ((a2 : Nat) : Int) = (o3, ((a3 : Nat) : Int), z3)) :
    o1 = t.id ∧ o2 = t.pos ∧ o3 = (bitN t.off : Nat) ∧ a3 = endU d (j + 1) ∧ z1 = true ∧ z2 = true ∧ z3 = true := by
  have e1 := endU_drop d j
  rw [hl, rowU_drop ht, ← hp] at e1
  have hi := (hd.cu ht).in
  unfold Cu.In at hi
  have e4 := endU_succ ht
  have e5 := endU_le d (j + 1)
  rw [hl] at e5
  unfold cuL at e1 e4
  simp only [List.append_assoc] at e1
  simp only [List.length_append] at e4
  have g1 := getVA_put h1 (by omega) e1 (by omega)
  have q1 : a1 = p + (varL t.id.toNat).length := by omega
  have e2 : l.drop a1 = varL t.pos.toNat ++ (varL (bitN t.off) ++ rowU (d.drop (j + 1))) := by
    rw [q1, ← List.drop_drop, e1, List.drop_left]
  have g2 := getVA_put h2 (by omega) e2 (by omega)
  have q2 : a2 = a1 + (varL t.pos.toNat).length := by omega
  have e3 : l.drop a2 = varL (bitN t.off) ++ rowU (d.drop (j + 1)) := by
    rw [q2, ← List.drop_drop, e2, List.drop_left]
  have g3 := getVA_put h3 (by omega) e3 (bitN_lt _)
  refine ⟨by omega, by omega, g3.1, by omega, g1.2.2, g2.2.2, g3.2.2⟩
theorem bit_pos (b : Bool) : decide ((0 : Int) < (bitN b : Nat)) = b := by cases b <;> rfl
theorem cu_next {l : List UInt8} {j p a1 a2 a3 : Nat} {us : List Cu} {o1 o2 o3 : Int} {z1 z2 z3 : Bool}
    (h1 : getVA l ((p : Nat) : Int) = (o1, ((a1 : Nat) : Int), z1)) (h2 : getVA l ((a1 : Nat) : Int) = (o2, ((a2 : Nat) : Int), z2)) (h3 : getVA l ((a2 : Nat) : Int) = (o3, ((a3 : Nat) : Int), z3))
    (hu : ∀ d, CuOk d → putU d = l → us = d.take j ∧ p = endU d j) (hn : ∀ d, CuOk d → putU d = l → j < d.length) : ∀ d, CuOk d → putU d = l → us ++ [(⟨o1, o2, decide (0 < o3)⟩ : Cu)] = d.take (j + 1) ∧ a3 = endU d (j + 1) := fun d hd hl => by
  have hj := hn d hd hl
  have ht : d[j]? = some d[j] := List.getElem?_eq_getElem hj
  obtain ⟨r1, r2, r3, r4, _⟩ := cu_step hd hl ht (hu d hd hl).2 h1 h2 h3
  refine ⟨?_, r4⟩
  rw [r3, bit_pos, r1, r2, (hu d hd hl).1]
  exact (List.take_succ_eq_append_getElem hj).symm
def UGuess (l : List UInt8) (w : World) (e : Ending) (w' : World) : Prop := ∃ v ts, e = .returned v ∧ COwn w w' v ts ∧ ts.length ≤ 4 ∧ GuessU l ts
theorem first_numU {l : List UInt8} {o q : Int} {z : Bool} (hg : getVA l 0 = (o, q, z)) : ∀ d : List Cu, CuOk d → putU d = l → o = d.length ∧ q = (endU d 0 : Nat) ∧ z = true := fun d hd hl => by
  have h1 := hd.1
  have := getVA_put (q := 0) (d := d.length) (x := rowU d) hg (Nat.zero_le _) (by rw [List.drop_zero, ← hl]; rfl) (by omega)
  rw [endU_zero]
  exact ⟨this.1, by rw [this.2.1]; simp, this.2.2⟩

set_option maxRecDepth 100000 in
set_option maxHeartbeats 6400000 in
theorem uguess_any (ad : Option Addr) (n c : Nat) (l : List UInt8) (w : World) (hr : Row w ad c l) (hn : l.length = n) (hlen : n ≤ 100000) :
    Calls Try.prog 30 #[.slice ad n c] w (UGuess l w) := by
  have HR := Lib.hid hr
  have HN := Lib.hid hn
  obtain ⟨o, q, z, hg⟩ : ∃ o q z, getVA l 0 = (o, q, z) := ⟨_, _, _, rfl⟩
  have hpl := getVA_place hg (by decide)
  obtain ⟨a, rfl, ha⟩ := hpl
  have ho := getVA_nat hg
  have HF := Lib.hid (first_numU hg)
  have HK := Lib.hid (getvar_any ad n c l 0 w hr hn hlen (by decide) (by decide))
  rw [hg] at HK
  simp only [Got3] at HK
  have HA : Hid (a ≤ l.length) := Lib.hid ha
  clear hr hn hg ha
  by_cases h4 : 4 < o
  · have HG : Hid (GuessU l []) := Lib.hid (fun d hd hl => by have h1 := (HF.out d hd hl).1; have := hd.1; omega)
    go_enter Try.func30, Try.ntmps30
    go_wp2_with fail
    refine HK.out.mono ?_
    rintro e w1 ⟨rfl, rfl⟩
    go_wp2_with fail
    go_ret
    exact ⟨_, _, rfl, GOwn.nil _ w, by simp, HG.out⟩
  · obtain ⟨N, hN⟩ : ∃ N : Nat, o = N := ⟨o.toNat, by omega⟩
    subst hN
    have hN4 : N ≤ 4 := by omega
    have HFN : Hid (∀ d, CuOk d → putU d = l → N = d.length) := Lib.hid (fun d hd hl => by have := (HF.out d hd hl).1; omega)
    have HFA : Hid (∀ d, CuOk d → putU d = l → a = endU d 0) := Lib.hid (fun d hd hl => by have := (HF.out d hd hl).2.1; omega)
    clear HF h4 ho
    go_enter Try.func30, Try.ntmps30
    go_wp2_with fail
    refine HK.out.mono ?_
    rintro e w1 ⟨rfl, rfl⟩
    clear HK
    go_wp2_with fail
    go_loopw [4, 6, 7, 8, 18] (fun v4 v _ _ i wr => ∃ (j p : Nat) (us : List Cu), i = .int .i64 j ∧ v4 = .int .i64 (p : Nat) ∧ j ≤ N ∧ Hid (p ≤ l.length) ∧ Hid (us.length = j) ∧ Hid (COwn w wr v us) ∧ Hid (∀ d, CuOk d → putU d = l → us = d.take j ∧ p = endU d j)) (fun _ _ _ _ i _ => N - (intOf i).toNat)
    case atStart => exact ⟨0, a, [], rfl, rfl, by omega, HA, Lib.hid rfl, Lib.hid (GOwn.nil _ w), Lib.hid (fun d hd hl => ⟨rfl, HFA.out d hd hl⟩)⟩
    case round =>
      obtain ⟨j, p, us, rfl, rfl, hj, hp, hul, hO, hU⟩ := hrel
      by_cases hjn : (j : Int) < N
      · obtain ⟨o1, q1, z1, g1⟩ : ∃ o q z, getVA l ((p : Nat) : Int) = (o, q, z) := ⟨_, _, _, rfl⟩
        obtain ⟨a1, rfl, ha1⟩ := getVA_place g1 (Int.natCast_nonneg _)
        obtain ⟨o2, q2, z2, g2⟩ : ∃ o q z, getVA l ((a1 : Nat) : Int) = (o, q, z) := ⟨_, _, _, rfl⟩
        obtain ⟨a2, rfl, ha2⟩ := getVA_place g2 (Int.natCast_nonneg _)
        obtain ⟨o3, q3, z3, g3⟩ : ∃ o q z, getVA l ((a2 : Nat) : Int) = (o, q, z) := ⟨_, _, _, rfl⟩
        obtain ⟨a3, rfl, ha3⟩ := getVA_place g3 (Int.natCast_nonneg _)
        have ho1 := getVA_nat g1
        have ho2 := getVA_nat g2
        have HU2 := Lib.hid (cu_next g1 g2 g3 hU.out (fun d hd hl => by have := HFN.out d hd hl; omega))
        have HTB : Hid (Cu.B ⟨o1, o2, decide (0 < o3)⟩) := Lib.hid (by unfold Cu.B W64; simp only; omega)
        have HP2 : Hid (a3 ≤ l.length) := Lib.hid ha3
        have HUL : Hid ((us ++ [(⟨o1, o2, decide (0 < o3)⟩ : Cu)]).length = j + 1) := Lib.hid (by rw [List.length_append, hul.out]; rfl)
        have HRW := Lib.hid (fun W (h : Below w.heap.size w W) => HR.out.later h)
        have HK1 := Lib.hid (fun W (h : Below w.heap.size w W) => getvar_any ad n c l ((p : Nat) : Int) W (HRW.out W h) HN.out hlen (by omega) (by have := hp.out; have := HN.out; omega))
        rw [g1] at HK1
        have HK2 := Lib.hid (fun W (h : Below w.heap.size w W) => getvar_any ad n c l ((a1 : Nat) : Int) W (HRW.out W h) HN.out hlen (by omega) (by have := HN.out; omega))
        rw [g2] at HK2
        have HK3 := Lib.hid (fun W (h : Below w.heap.size w W) => getvar_any ad n c l ((a2 : Nat) : Int) W (HRW.out W h) HN.out hlen (by omega) (by have := HN.out; omega))
        rw [g3] at HK3
        simp only [Got3] at HK1 HK2 HK3
        have HB3 : Hid (Below w.heap.size w (wr.alloc (.cells #[.int .i64 0, .int .i64 0, .bool false] 39))) := Lib.hid (hO.out.below.alloc hO.out.below.size _)
        have HO3 := Lib.hid (hO.out.later ((Below.refl _ _).alloc (Nat.le_refl _) (.cells #[.int .i64 0, .int .i64 0, .bool false] 39)))
        have HX3 := Lib.hid (RecAt.new wr #[.int .i64 0, .int .i64 0, .bool false] 39)
        have HPL := Lib.hid hO.out.below.size
        clear g1 g2 g3 ha1 ha2 ha3 ho1 ho2
        go_upto_region 8 with fail
        obtain ⟨p4, hp4⟩ : ∃ x, wr.heap.size = x := ⟨_, rfl⟩
        rw [hp4] at HX3 HPL ⊢
        have HBR : Hid (Below p4 wr (wr.alloc (.cells #[.int .i64 0, .int .i64 0, .bool false] 39))) := Lib.hid ((Below.refl _ _).alloc (Nat.le_of_eq hp4.symm) _)
        have HOX : Hid (∀ W, Below p4 wr W → COwn w W u6 us) := Lib.hid (fun W h => hO.out.later (by rw [hp4]; exact h))
        clear HO3 hp4
        generalize (wr.alloc (.cells #[.int .i64 0, .int .i64 0, .bool false] 39)) = w3 at *
        obtain ⟨f0, f1, f2⟩ := HX3.out.f3
        obtain ⟨x0, x1, x2⟩ := HX3.out.c3
        go_wp2_with fail
        refine (HK1.out w3 HB3.out).mono ?_
        rintro e w4 ⟨rfl, rfl⟩
        go_upto_region 10 with fail
        have HX5 := Lib.hid (HX3.out.set 0 (.int .i64 o1))
        have HB5 := Lib.hid (HB3.out.setCell (p := ⟨p4, 0, none⟩) HPL.out (.int .i64 o1))
        have HBR5 := Lib.hid (HBR.out.setCell (p := ⟨p4, 0, none⟩) (Nat.le_refl _) (.int .i64 o1))
        clear f0 f1 f2 x0 x1 x2 HX3 HB3 HBR
        generalize (w3.setCell ⟨p4, 0, none⟩ (.int .i64 o1)) = w5 at *
        simp only [List.setIfInBounds_toArray, List.set_cons_zero] at HX5
        obtain ⟨f0, f1, f2⟩ := HX5.out.f3
        obtain ⟨x0, x1, x2⟩ := HX5.out.c3
        go_wp2_with fail
        refine (HK2.out w5 HB5.out).mono ?_
        rintro e w4 ⟨rfl, rfl⟩
        go_upto_region 11 with fail
        have HX6 := Lib.hid (HX5.out.set 1 (.int .i64 o2))
        have HB6 := Lib.hid (HB5.out.setCell (p := ⟨p4, 1, none⟩) HPL.out (.int .i64 o2))
        have HBR6 := Lib.hid (HBR5.out.setCell (p := ⟨p4, 1, none⟩) (Nat.le_refl _) (.int .i64 o2))
        clear f0 f1 f2 x0 x1 x2 HX5 HB5 HBR5
        generalize (w5.setCell ⟨p4, 1, none⟩ (.int .i64 o2)) = w6 at *
        simp only [List.setIfInBounds_toArray, List.set_cons_zero, List.set_cons_succ] at HX6
        go_wp2_with fail
        refine (HK3.out w6 HB6.out).mono ?_
        rintro e w4 ⟨rfl, rfl⟩
        obtain ⟨f0, f1, f2⟩ := HX6.out.f3
        obtain ⟨x0, x1, x2⟩ := HX6.out.c3
        go_upto_region 13 with fail
        have HX7 := Lib.hid (HX6.out.set 2 (.bool (decide (0 < o3))))
        have HB7 := Lib.hid (HB6.out.setCell (p := ⟨p4, 2, none⟩) HPL.out (.bool (decide (0 < o3))))
        have HBR7 := Lib.hid (HBR6.out.setCell (p := ⟨p4, 2, none⟩) (Nat.le_refl _) (.bool (decide (0 < o3))))
        clear f0 f1 f2 x0 x1 x2 HX6 HB6 HBR6
        generalize (w6.setCell ⟨p4, 2, none⟩ (.bool (decide (0 < o3)))) = w7 at *
        simp only [List.setIfInBounds_toArray, List.set_cons_zero, List.set_cons_succ] at HX7
        have HO7 := Lib.hid (HOX.out w7 HBR7.out)
        obtain ⟨x0, x1, x2⟩ := HX7.out.c3
        generalize decide (0 < o3) = b3 at *
        go_wp2_with (at_builtin; refine wp_gone cuOk rfl _ _ rfl rfl _ _ rfl w HO7.out ⟨o1, o2, b3⟩ HTB.out rfl rfl (by rw [hul.out]; omega) ?_; intro v8 w8 o8 g8 h8; have HO8 := Lib.hid o8; clear o8 g8 h8)
        go_roundw
        case rel => exact ⟨j + 1, a3, us ++ [⟨o1, o2, b3⟩], by go_num, rfl, by omega, HP2, HUL, HO8, HU2⟩
        case measure => simp [intOf]; omega
      · have : j = N := by omega
        subst this
        have HG : Hid (GuessU l us) := Lib.hid (fun d hd hl => by rw [(hU.out d hd hl).1, HFN.out d hd hl, List.take_length])
        go_wp2_with fail
        go_ret
        exact ⟨_, _, rfl, hO.out, by have := hul.out; omega, HG.out⟩
/-- What is got, and why not. -/
def UGot (l : List UInt8) (w : World) (e : Ending) (w' : World) : Prop := ∃ v, e = .returned (.tuple #[v, .int .i64 (getCu l).2]) ∧ COwn w w' v (getCu l).1
theorem ugot_no {l : List UInt8} {w w' : World} (h : getCu l = ([], 2)) (hb : Below w.heap.size w w') : UGot l w (.returned (.tuple #[.slice none 0 0, .int .i64 2])) w' := by
  unfold UGot; rw [h]
  exact ⟨_, rfl, World.ownsRow_nil _ _ _ _, hb, fun t h => by cases h⟩
set_option maxHeartbeats 1600000 in
theorem uget_any (ad : Option Addr) (n c : Nat) (l : List UInt8) (w : World) (hr : Row w ad c l) (hn : l.length = n) (hlen : n ≤ 100000) :
    Calls Try.prog 11 #[.slice ad n c] w (UGot l w) := by
  have HR := Lib.hid hr
  have HN := Lib.hid hn
  have HK := Lib.hid (uguess_any ad n c l w hr hn hlen)
  clear hr hn
  go_enter Try.func11, Try.ntmps11
  go_wp2_with fail
  refine HK.out.mono ?_
  rintro e w1 ⟨v, us, rfl, o1, h4, hg⟩
  obtain ⟨m, hm⟩ : ∃ m, us.length = m := ⟨_, rfl⟩
  obtain ⟨a1, c1, rfl, r1⟩ := o1.row_n cuOk hm
  have HO1 := Lib.hid o1
  have HB1 := Lib.hid o1.below
  have HG := Lib.hid hg
  have HP := Lib.hid (uput_any a1 m c1 us w1 r1 hm)
  clear HK o1 hg r1 h4 hm
  cases hx : rightU us with
  | false =>
    rw [putCu_no hx] at HP
    have HF := Lib.hid (guessU_not HG.out (.inl hx))
    clear hx
    go_wp2_with fail
    refine HP.out.mono ?_
    rintro e w2 ⟨v2, rfl, o2⟩
    have HB2 := Lib.hid (HB1.out.trans (o2.below.mono HB1.out.size))
    clear o2
    go_wp2_with fail
    go_ret2
    exact ugot_no HF.out HB2.out
  | true =>
    rw [putCu_yes hx] at HP
    have HX := Lib.hid hx
    clear hx
    go_wp2_with fail
    refine HP.out.mono ?_
    rintro e w2 ⟨v2, rfl, o2⟩
    obtain ⟨m2, hm2⟩ : ∃ m, (putU us).length = m := ⟨_, rfl⟩
    obtain ⟨a2, c2, rfl, r2⟩ := o2.row_n hm2
    have HB2 := Lib.hid (HB1.out.trans (o2.below.mono HB1.out.size))
    have HO2 := Lib.hid (HO1.out.later o2.below)
    have HE := Lib.hid (equal_any a2 ad m2 n c2 c (putU us) l w2 r2 (HR.out.later HB2.out) hm2 HN.out)
    clear o2 r2 hm2
    by_cases he : putU us = l
    · have HF := Lib.hid (guessU_yes HX.out he)
      have hd : decide (putU us = l) = true := by simpa using he
      rw [hd] at HE
      clear he hd
      go_wp2_with (go_at_call 31; refine HE.out.mono ?_; rintro e w3 ⟨rfl, rfl⟩)
      go_ret2
      unfold UGot
      rw [HF.out]
      exact ⟨_, rfl, HO2.out⟩
    · have HF := Lib.hid (guessU_not HG.out (.inr he))
      have hd : decide (putU us = l) = false := by simpa using he
      rw [hd] at HE
      clear he hd
      go_wp2_with (go_at_call 31; refine HE.out.mono ?_; rintro e w3 ⟨rfl, rfl⟩)
      go_ret2
      exact ugot_no HF.out HB2.out
end Go.Proofs.Ytcddbffeejijpaa
