/- Stripes: the document's own Objects, Bytes, Map. -/
import Derived.Test.YtalgjoeinllllaaSpA
namespace Go.Proofs.Ytalgjoeinllllaa
open Go.RowKit Go.Proofs
set_option linter.unusedVariables false
set_option linter.unusedSimpArgs false
set_option linter.unnecessarySimpa false

/-! ### plain -/
def objsX (U P C : Nat) : Nat → Nat
  | 0 => 0
  | n + 1 => max (objsX U P C n) (objP U P C n + 1)
def topB (U P C : Nat) (obj : Int) : Nat → Nat
  | 0 => 0
  | n + 1 => if ((objP U P C n : Nat) : Int) = obj then max (topB U P C obj n) (atP U P C n + 1) else topB U P C obj n
/-- How many bytes a size has. -/
def hldS (size : Int) : Nat := (min (max size 0) 512).toNat
theorem hldS_le (size : Int) : hldS size ≤ 512 := by unfold hldS; omega
theorem hldS_eq (size : Int) : min (max size 0) 512 = ((hldS size : Nat) : Int) := by unfold hldS; omega
def objsI (o u c size : Int) : Int := if ShapeOk o u c then ((objsX (2 ^ u.toNat) (2 ^ (o.toNat - u.toNat)) c.toNat (hldS size) : Nat) : Int) else 0
def bytesI (o u c size obj : Int) : Int := if ShapeOk o u c then ((topB (2 ^ u.toNat) (2 ^ (o.toNat - u.toNat)) c.toNat obj (hldS size) : Nat) : Int) else 0
def mapI (o u c off n : Int) : List Xt := if ShapeOk o u c ∧ 0 ≤ off ∧ 1 ≤ n ∧ n ≤ 512 ∧ off ≤ 512 - n then mapX (2 ^ u.toNat) (2 ^ (o.toNat - u.toNat)) c.toNat off.toNat n.toNat else []
theorem objP_le {U P C off : Nat} (hC : 1 ≤ C) (hC4 : C ≤ 4) (h : off ≤ 1073741824) : objP U P C off ≤ 1073741824 * 5 := by
  unfold objP
  have h1 : off / U / C / P ≤ off := Nat.le_trans (Nat.div_le_self _ _) (Nat.le_trans (Nat.div_le_self _ _) (Nat.div_le_self _ _))
  have h2 : off / U % C < C := Nat.mod_lt _ hC
  have h3 : off / U / C / P * C ≤ 1073741824 * 4 := Nat.mul_le_mul (by omega) hC4
  omega
theorem objsX_le {U P C : Nat} (hC : 1 ≤ C) (hC4 : C ≤ 4) : ∀ {n : Nat}, n ≤ 512 → objsX U P C n ≤ 5368709121
  | 0, _ => by simp [objsX]
  | n + 1, h => by
    have h1 := objsX_le (U := U) (P := P) hC hC4 (n := n) (by omega)
    have h2 := objP_le (U := U) (P := P) hC hC4 (off := n) (by omega)
    unfold objsX; omega
theorem topB_le {U P C : Nat} {obj : Int} (hU : 0 < U) (hP : 0 < P) (hb : P * U ≤ 64) : ∀ n : Nat, topB U P C obj n ≤ 64
  | 0 => by simp [topB]
  | n + 1 => by
    have h1 := topB_le (C := C) (obj := obj) hU hP hb n
    have h2 := atP_lt (C := C) (off := n) hU hP
    unfold topB; split <;> omega
/-- A shape's numbers as letters. -/
structure ShN (o u c : Int) (U P C : Nat) : Prop where
  ok : ShapeOk o u c
  u4 : 4 ≤ U
  u64 : U ≤ 64
  p1 : 1 ≤ P
  p16 : P ≤ 16
  pu : P * U ≤ 64
  c1 : 1 ≤ C
  c4 : C ≤ 4
  place : ∀ off : Nat, off ≤ 1073741824 → placeI o u c off = (((objP U P C off : Nat) : Int), ((atP U P C off : Nat) : Int))
  objs : ∀ size : Int, objsI o u c size = ((objsX U P C (hldS size) : Nat) : Int)
  bytes : ∀ size obj : Int, bytesI o u c size obj = ((topB U P C obj (hldS size) : Nat) : Int)
  map : ∀ off n : Nat, 1 ≤ n → off + n ≤ 512 → mapI o u c off n = mapX U P C off n
theorem shN {o u c : Int} (h : ShapeOk o u c) : ∃ U P C, ShN o u c U P C := by
  obtain ⟨o, u, c, rfl, rfl, rfl, ho3, ho6, hu2, huo, hc1, hc4⟩ := shape_nat h
  have hp := pow_small hu2 huo ho6
  refine ⟨2 ^ u, 2 ^ (o - u), c, h, hp.1, hp.2.1, hp.2.2.1, hp.2.2.2.1, by rw [← hp.2.2.2.2.1]; exact hp.2.2.2.2.2, hc1, hc4, fun off ho => placeI_yes h ho, fun size => ?_, fun size obj => ?_, fun off n h1 h2 => ?_⟩
  · unfold objsI; rw [if_pos h]; simp
  · unfold bytesI; rw [if_pos h]; simp
  · unfold mapI; rw [if_pos ⟨h, by omega, by omega, by omega, by omega⟩]; simp
theorem objsI_no {o u c size : Int} (h : ¬ ShapeOk o u c) : objsI o u c size = 0 := by unfold objsI; rw [if_neg h]
theorem bytesI_no {o u c size obj : Int} (h : ¬ ShapeOk o u c) : bytesI o u c size obj = 0 := by unfold bytesI; rw [if_neg h]
theorem mapI_no {o u c off n : Int} (h : ¬ (ShapeOk o u c ∧ 0 ≤ off ∧ 1 ≤ n ∧ n ≤ 512 ∧ off ≤ 512 - n)) : mapI o u c off n = [] := by unfold mapI; rw [if_neg h]

set_option maxRecDepth 20000 in
set_option maxHeartbeats 3200000 in
theorem robjects_any (o u c size : Int) (w : World) : Calls Try.prog 16 #[.agg (layC o u c), .int .i64 size] w fun e w' => e = .returned (.int .i64 (objsI o u c size)) ∧ Below w.heap.size w w' := by
  have HX0 := Lib.hid (RecAt.new w (layC o u c) 23)
  have HB0 := Lib.hid ((Below.refl w.heap.size w).alloc (Nat.le_refl _) (.cells (layC o u c) 23))
  obtain ⟨w1, hw1⟩ : ∃ W, w.alloc (.cells (layC o u c) 23) = W := ⟨_, rfl⟩
  rw [hw1] at HX0 HB0
  have HSH := Lib.hid (fun W => rshape_any o u c W)
  have HHE := Lib.hid (fun W => rheld_any size 0 512 (by omega) W)
  rw [hldS_eq] at HHE
  obtain ⟨R, hR⟩ : ∃ R, objsI o u c size = R := ⟨_, rfl⟩
  rw [hR]
  have HR := Lib.hid hR
  clear hR
  go_enter Try.func16, Try.ntmps16
  go_upto_region 1 with fail
  try rw [hw1]
  clear hw1
  obtain ⟨X, hX⟩ : ∃ X, w.heap.size = X := ⟨_, rfl⟩
  rw [hX] at HX0 ⊢
  have HXS := Lib.hid hX
  clear hX
  obtain ⟨x0, x1, x2⟩ := HX0.out.l3
  go_wp2_with fail
  refine (HSH.out w1).mono ?_
  rintro e w2 ⟨rfl, b2⟩
  have HX2 := Lib.hid (HX0.out.later b2)
  have HB2 := Lib.hid (HB0.out.trans (b2.mono (by have := HB0.out.size; rw [HXS.out] at this ⊢; exact this)))
  clear b2 x0 x1 x2 HSH
  by_cases hs : ShapeOk o u c
  · have hsd : decide (ShapeOk o u c) = true := decide_eq_true hs
    rw [hsd]
    obtain ⟨U, P, C, hN⟩ := shN hs
    have HN := Lib.hid hN
    have HF : Hid (R = ((objsX U P C (hldS size) : Nat) : Int)) := Lib.hid (by rw [← HR.out]; exact hN.objs size)
    have hn5 := hldS_le size
    obtain ⟨N, hNN⟩ : ∃ N, hldS size = N := ⟨_, rfl⟩
    rw [hNN] at HF HHE hn5
    clear hN hs hsd HR hNN
    go_wp2_with fail
    go_loopw [5, 6] (fun q i wr => ∃ (j k : Nat), i = .int .i64 j ∧ q = .int .i64 k ∧ j ≤ N ∧ Below w2.heap.size w2 wr ∧ k ≤ 5368709121 ∧ Hid (k = objsX U P C j)) (fun _ i _ => N - (intOf i).toNat)
    case atStart => exact ⟨0, 0, rfl, rfl, by omega, Below.refl _ _, by omega, Lib.hid rfl⟩
    case round =>
      obtain ⟨j, k, rfl, rfl, hj, hb, hk5, HK⟩ := hrel
      have HBR := Lib.hid hb
      clear hb
      obtain ⟨x0, x1, x2⟩ := (HX2.out.later HBR.out).l3
      by_cases hjn : (j : Int) < N
      · have hjn2 : decide ((j : Int) < N) = true := decide_eq_true hjn
        have HPL := Lib.hid (rplace_any o u c j wr)
        rw [HN.out.place j (by omega)] at HPL
        have hob := objP_le (U := U) (P := P) HN.out.c1 HN.out.c4 (off := j) (by omega)
        have HS : Hid (objsX U P C (j + 1) = max k (objP U P C j + 1)) := Lib.hid (by rw [HK.out]; rfl)
        have HSL : Hid (objsX U P C (j + 1) ≤ 5368709121) := Lib.hid (objsX_le HN.out.c1 HN.out.c4 (by omega))
        obtain ⟨OB, hOB⟩ : ∃ r, objP U P C j = r := ⟨_, rfl⟩
        obtain ⟨AT, hAT⟩ : ∃ r, atP U P C j = r := ⟨_, rfl⟩
        rw [hOB, hAT] at HPL
        rw [hOB] at HS hob
        clear hOB hAT
        go_wp2_with fail
        refine (HHE.out _).mono ?_
        rintro e w3 ⟨rfl, rfl⟩
        go_wp2_with fail
        refine HPL.out.mono ?_
        rintro e w4 ⟨rfl, b4⟩
        have HB4 := Lib.hid (HBR.out.trans (b4.mono HBR.out.size))
        clear b4 HPL x0 x1 x2
        by_cases hm : k ≤ OB + 1
        · have hmx : max (k : Int) ((OB : Int) + 1) = ((OB + 1 : Nat) : Int) := by omega
          have HE : Hid (objsX U P C (j + 1) = OB + 1) := Lib.hid (by rw [HS.out]; omega)
          go_wp2_with fail
          go_roundw
          case rel => exact ⟨j + 1, OB + 1, by go_num, by go_num, by omega, HB4.out, by have := HSL.out; rw [HE.out] at this; exact this, Lib.hid HE.out.symm⟩
          case measure => simp [intOf]; omega
        · have hmx : max (k : Int) ((OB : Int) + 1) = (k : Int) := by omega
          have HE : Hid (objsX U P C (j + 1) = k) := Lib.hid (by rw [HS.out]; omega)
          go_wp2_with fail
          go_roundw
          case rel => exact ⟨j + 1, k, by go_num, congrArg (Value.int IntKind.i64) (by split <;> omega), by omega, HB4.out, hk5, Lib.hid HE.out.symm⟩
          case measure => simp [intOf]; omega
      · have hjn2 : decide ((j : Int) < N) = false := decide_eq_false hjn
        have hjN : j = N := by omega
        have HE : Hid (R = (k : Int)) := Lib.hid (by rw [HF.out, HK.out, hjN])
        clear hjN
        go_wp2_with fail
        refine (HHE.out _).mono ?_
        rintro e w3 ⟨rfl, rfl⟩
        go_wp2_with fail
        go_ret
        rw [HE.out]
        exact ⟨rfl, HB2.out.trans (HBR.out.mono HB2.out.size)⟩
  · have hsd : decide (ShapeOk o u c) = false := decide_eq_false hs
    rw [hsd]
    have HF : Hid (R = 0) := Lib.hid (by rw [← HR.out]; exact objsI_no hs)
    go_wp2_with fail
    go_ret
    rw [HF.out]
    exact ⟨rfl, HB2.out⟩
set_option maxRecDepth 20000 in
set_option maxHeartbeats 3200000 in
theorem rbytes_any (o u c size obj : Int) (w : World) : Calls Try.prog 18 #[.agg (layC o u c), .int .i64 size, .int .i64 obj] w fun e w' => e = .returned (.int .i64 (bytesI o u c size obj)) ∧ Below w.heap.size w w' := by
  have HX0 := Lib.hid (RecAt.new w (layC o u c) 23)
  have HB0 := Lib.hid ((Below.refl w.heap.size w).alloc (Nat.le_refl _) (.cells (layC o u c) 23))
  obtain ⟨w1, hw1⟩ : ∃ W, w.alloc (.cells (layC o u c) 23) = W := ⟨_, rfl⟩
  rw [hw1] at HX0 HB0
  have HSH := Lib.hid (fun W => rshape_any o u c W)
  have HHE := Lib.hid (fun W => rheld_any size 0 512 (by omega) W)
  rw [hldS_eq] at HHE
  obtain ⟨R, hR⟩ : ∃ R, bytesI o u c size obj = R := ⟨_, rfl⟩
  rw [hR]
  have HR := Lib.hid hR
  clear hR
  go_enter Try.func18, Try.ntmps18
  go_upto_region 1 with fail
  try rw [hw1]
  clear hw1
  obtain ⟨X, hX⟩ : ∃ X, w.heap.size = X := ⟨_, rfl⟩
  rw [hX] at HX0 ⊢
  have HXS := Lib.hid hX
  clear hX
  obtain ⟨x0, x1, x2⟩ := HX0.out.l3
  go_wp2_with fail
  refine (HSH.out w1).mono ?_
  rintro e w2 ⟨rfl, b2⟩
  have HX2 := Lib.hid (HX0.out.later b2)
  have HB2 := Lib.hid (HB0.out.trans (b2.mono (by have := HB0.out.size; rw [HXS.out] at this ⊢; exact this)))
  clear b2 x0 x1 x2 HSH
  by_cases hs : ShapeOk o u c
  · have hsd : decide (ShapeOk o u c) = true := decide_eq_true hs
    rw [hsd]
    obtain ⟨U, P, C, hN⟩ := shN hs
    have HN := Lib.hid hN
    have HF : Hid (R = ((topB U P C obj (hldS size) : Nat) : Int)) := Lib.hid (by rw [← HR.out]; exact hN.bytes size obj)
    have hn5 := hldS_le size
    obtain ⟨N, hNN⟩ : ∃ N, hldS size = N := ⟨_, rfl⟩
    rw [hNN] at HF HHE hn5
    clear hN hs hsd HR hNN
    go_wp2_with fail
    go_loopw [7, 8] (fun q i wr => ∃ (j k : Nat), i = .int .i64 j ∧ q = .int .i64 k ∧ j ≤ N ∧ Below w2.heap.size w2 wr ∧ k ≤ 64 ∧ Hid (k = topB U P C obj j)) (fun _ i _ => N - (intOf i).toNat)
    case atStart => exact ⟨0, 0, rfl, rfl, by omega, Below.refl _ _, by omega, Lib.hid rfl⟩
    case round =>
      obtain ⟨j, k, rfl, rfl, hj, hb, hk5, HK⟩ := hrel
      have HBR := Lib.hid hb
      clear hb
      obtain ⟨x0, x1, x2⟩ := (HX2.out.later HBR.out).l3
      by_cases hjn : (j : Int) < N
      · have hjn2 : decide ((j : Int) < N) = true := decide_eq_true hjn
        have HPL := Lib.hid (rplace_any o u c j wr)
        rw [HN.out.place j (by omega)] at HPL
        have hob := objP_le (U := U) (P := P) HN.out.c1 HN.out.c4 (off := j) (by omega)
        have HS : Hid (topB U P C obj (j + 1) = if ((objP U P C j : Nat) : Int) = obj then max k (atP U P C j + 1) else k) := Lib.hid (by rw [HK.out]; rfl)
        have hatl := atP_lt (C := C) (off := j) (show 0 < U by have := HN.out.u4; omega) (show 0 < P by have := HN.out.p1; omega)
        have hpu := HN.out.pu
        have HSL : Hid (topB U P C obj (j + 1) ≤ 64) := Lib.hid (topB_le (by have := HN.out.u4; omega) (by have := HN.out.p1; omega) HN.out.pu _)
        obtain ⟨OB, hOB⟩ : ∃ r, objP U P C j = r := ⟨_, rfl⟩
        obtain ⟨AT, hAT⟩ : ∃ r, atP U P C j = r := ⟨_, rfl⟩
        rw [hOB, hAT] at HPL
        rw [hOB, hAT] at HS
        rw [hOB] at hob
        rw [hAT] at hatl
        clear hOB hAT
        go_wp2_with fail
        refine (HHE.out _).mono ?_
        rintro e w3 ⟨rfl, rfl⟩
        go_wp2_with fail
        refine HPL.out.mono ?_
        rintro e w4 ⟨rfl, b4⟩
        have HB4 := Lib.hid (HBR.out.trans (b4.mono HBR.out.size))
        clear b4 HPL x0 x1 x2
        by_cases he : (OB : Int) = obj
        · have hed : ((OB : Int) == obj) = true := by simp [he]
          rw [if_pos he] at HS
          clear he
          by_cases hm : k ≤ AT + 1
          · have HE : Hid (topB U P C obj (j + 1) = AT + 1) := Lib.hid (by rw [HS.out]; omega)
            go_wp2_with fail
            go_roundw
            case rel => exact ⟨j + 1, AT + 1, by go_num, congrArg (Value.int IntKind.i64) (by split <;> omega), by omega, HB4.out, by omega, Lib.hid HE.out.symm⟩
            case measure => simp [intOf]; omega
          · have HE : Hid (topB U P C obj (j + 1) = k) := Lib.hid (by rw [HS.out]; omega)
            go_wp2_with fail
            go_roundw
            case rel => exact ⟨j + 1, k, by go_num, congrArg (Value.int IntKind.i64) (by split <;> omega), by omega, HB4.out, hk5, Lib.hid HE.out.symm⟩
            case measure => simp [intOf]; omega
        · have hed : ((OB : Int) == obj) = false := by simp [he]
          rw [if_neg he] at HS
          clear he
          go_wp2_with fail
          go_roundw
          case rel => exact ⟨j + 1, k, by go_num, rfl, by omega, HB4.out, hk5, Lib.hid HS.out.symm⟩
          case measure => simp [intOf]; omega
      · have hjn2 : decide ((j : Int) < N) = false := decide_eq_false hjn
        have hjN : j = N := by omega
        have HE : Hid (R = (k : Int)) := Lib.hid (by rw [HF.out, HK.out, hjN])
        clear hjN
        go_wp2_with fail
        refine (HHE.out _).mono ?_
        rintro e w3 ⟨rfl, rfl⟩
        go_wp2_with fail
        go_ret
        rw [HE.out]
        exact ⟨rfl, HB2.out.trans (HBR.out.mono HB2.out.size)⟩
  · have hsd : decide (ShapeOk o u c) = false := decide_eq_false hs
    rw [hsd]
    have HF : Hid (R = 0) := Lib.hid (by rw [← HR.out]; exact bytesI_no hs)
    go_wp2_with fail
    go_ret
    rw [HF.out]
    exact ⟨rfl, HB2.out⟩

theorem mapX_len (U P C off : Nat) : ∀ n, (mapX U P C off n).length ≤ n
  | 0 => by simp [mapX]
  | n + 1 => by
    have ih := mapX_len U P C off n
    show (addX (mapX U P C off n) _ _ n).length ≤ n + 1
    unfold addX
    split
    · split
      · rename_i x hx _
        have := getLast_split hx
        have h2 : (mapX U P C off n).length = ((mapX U P C off n).dropLast).length + 1 := by conv => lhs; rw [this, List.length_append, List.length_singleton]
        rw [List.length_append, List.length_singleton]; omega
      · rw [List.length_append, List.length_singleton]; omega
    · rw [List.length_append, List.length_singleton]; omega
/-- The last piece: where, and the row with one byte more. -/
theorem addX_last {L : List Xt} {K : Nat} {x : Xt} (hK : L.length = K + 1) (hx : L[K]? = some x) (obj at' i : Nat) : addX L obj at' i = if x.obj = obj ∧ x.off + x.len = at' then L.set K ⟨x.obj, x.off, x.len + 1, x.at'⟩ else L ++ [⟨obj, at', 1, i⟩] := by
  have hl : L.getLast? = some x := by rw [List.getLast?_eq_getElem?, hK]; simpa using hx
  unfold addX
  rw [hl]
  simp only
  split
  · have hs := getLast_split hl
    have hd : L.dropLast.length = K := by rw [List.length_dropLast]; omega
    conv => rhs; rw [hs]
    rw [List.set_append_right _ _ (by omega), hd, Nat.sub_self]; rfl
  · rfl
theorem addX_nil (obj at' i : Nat) : addX [] obj at' i = [⟨obj, at', 1, i⟩] := rfl
theorem mapX_last_le {U P C off n K : Nat} {x : Xt} (hU : 0 < U) (hP : 0 < P) (hb : P * U ≤ 64) (hK : (mapX U P C off n).length = K + 1) (hx : (mapX U P C off n)[K]? = some x) : x.off ≤ 64 ∧ x.len ≤ n := by
  have hp := mapX_pieces U P C off n
  have hl : (mapX U P C off n).getLast? = some x := by rw [List.getLast?_eq_getElem?, hK]; simpa using hx
  have hn : n ≠ 0 := fun e => by rw [hp.none e] at hl; simp at hl
  obtain ⟨y, hy, hyl⟩ := hp.last hn
  rw [hl, Option.some.injEq] at hy
  subst hy
  have hm : x ∈ mapX U P C off n := List.mem_of_getElem? hx
  have h1 := hp.lens x hm
  have h2 := (hp.byte x hm 0 (by omega)).2
  have h3 := atP_lt (C := C) (off := off + x.at' + 0) hU hP
  omega
set_option maxRecDepth 20000 in
set_option maxHeartbeats 6400000 in
theorem rmap_any (o u c off n : Int) (hn : -9223372036854775808 ≤ n ∧ n ≤ 9223372036854775807) (w : World) : Calls Try.prog 14 #[.agg (layC o u c), .int .i64 off, .int .i64 n] w fun e w' => ∃ v, e = .returned v ∧ GOwn xtT w w' v (mapI o u c off n) := by
  have HX0 := Lib.hid (RecAt.new w (layC o u c) 23)
  have HB0 := Lib.hid ((Below.refl w.heap.size w).alloc (Nat.le_refl _) (.cells (layC o u c) 23))
  obtain ⟨w1, hw1⟩ : ∃ W, w.alloc (.cells (layC o u c) 23) = W := ⟨_, rfl⟩
  rw [hw1] at HX0 HB0
  have HSH := Lib.hid (fun W => rshape_any o u c W)
  obtain ⟨R, hR⟩ : ∃ R, mapI o u c off n = R := ⟨_, rfl⟩
  rw [hR]
  have HR := Lib.hid hR
  clear hR
  go_enter Try.func14, Try.ntmps14
  go_upto_region 1 with fail
  try rw [hw1]
  clear hw1
  obtain ⟨X, hX⟩ : ∃ X, w.heap.size = X := ⟨_, rfl⟩
  rw [hX] at HX0 ⊢
  have HXS := Lib.hid hX
  clear hX
  obtain ⟨x0, x1, x2⟩ := HX0.out.l3
  go_wp2_with fail
  refine (HSH.out w1).mono ?_
  rintro e w2 ⟨rfl, b2⟩
  have HX2 := Lib.hid (HX0.out.later b2)
  have HB2 := Lib.hid (HB0.out.trans (b2.mono (by have := HB0.out.size; rw [HXS.out] at this ⊢; exact this)))
  clear b2 x0 x1 x2 HSH
  by_cases hs : ShapeOk o u c
  · have hsd : decide (ShapeOk o u c) = true := decide_eq_true hs
    rw [hsd]
    rcases (show off < 0 ∨ (¬ off < 0 ∧ n < 1) ∨ (¬ off < 0 ∧ ¬ n < 1 ∧ 512 < n) ∨ (¬ off < 0 ∧ ¬ n < 1 ∧ ¬ 512 < n ∧ 512 - n < off) ∨ (¬ off < 0 ∧ ¬ n < 1 ∧ ¬ 512 < n ∧ ¬ 512 - n < off) by omega) with h | ⟨h, h1⟩ | ⟨h, h1, h2⟩ | ⟨h, h1, h2, h3⟩ | ⟨h, h1, h2, h3⟩
    · have hd0 : decide (off < 0) = true := decide_eq_true h
      have HF : Hid (R = []) := Lib.hid (by rw [← HR.out]; exact mapI_no (fun c => by omega))
      go_wp2_with fail
      go_ret
      rw [HF.out]
      exact ⟨_, rfl, GOwn.nil' HB2.out⟩
    · have hd0 : decide (off < 0) = false := decide_eq_false h
      have hd1 : decide (n < 1) = true := decide_eq_true h1
      have HF : Hid (R = []) := Lib.hid (by rw [← HR.out]; exact mapI_no (fun c => by omega))
      go_wp2_with fail
      go_ret
      rw [HF.out]
      exact ⟨_, rfl, GOwn.nil' HB2.out⟩
    · have hd0 : decide (off < 0) = false := decide_eq_false h
      have hd1 : decide (n < 1) = false := decide_eq_false h1
      have hd2 : decide (n > 512) = true := decide_eq_true h2
      have HF : Hid (R = []) := Lib.hid (by rw [← HR.out]; exact mapI_no (fun c => by omega))
      go_wp2_with fail
      go_ret
      rw [HF.out]
      exact ⟨_, rfl, GOwn.nil' HB2.out⟩
    · have hd0 : decide (off < 0) = false := decide_eq_false h
      have hd1 : decide (n < 1) = false := decide_eq_false h1
      have hd2 : decide (n > 512) = false := decide_eq_false h2
      have hd3 : decide (off > 512 - n) = true := decide_eq_true h3
      have HF : Hid (R = []) := Lib.hid (by rw [← HR.out]; exact mapI_no (fun c => by omega))
      go_wp2_with fail
      go_ret
      rw [HF.out]
      exact ⟨_, rfl, GOwn.nil' HB2.out⟩
    have hd0 : decide (off < 0) = false := decide_eq_false h
    have hd1 : decide (n < 1) = false := decide_eq_false h1
    have hd2 : decide (n > 512) = false := decide_eq_false h2
    have hd3 : decide (off > 512 - n) = false := decide_eq_false h3
    obtain ⟨O, hO⟩ : ∃ O : Nat, off = O := ⟨off.toNat, by omega⟩
    subst hO
    obtain ⟨N, hNN⟩ : ∃ O : Nat, n = O := ⟨n.toNat, by omega⟩
    subst hNN
    obtain ⟨U, P, C, hN⟩ := shN hs
    have HN := Lib.hid hN
    have HF : Hid (R = mapX U P C O N) := Lib.hid (by rw [← HR.out]; exact hN.map O N (by omega) (by omega))
    have hON : O + N ≤ 512 := by omega
    clear hN hs hsd HR h3
    go_wp2_with fail
    go_loopw [7, 8] (fun v i wr => ∃ (j : Nat) (L : List Xt), i = .int .i64 j ∧ j ≤ N ∧ L.length ≤ j ∧ GOwn xtT w2 wr v L ∧ Hid (L = mapX U P C O j)) (fun _ i _ => N - (intOf i).toNat)
    case atStart => exact ⟨0, [], rfl, by omega, by simp, GOwn.nil' (Below.refl _ _), Lib.hid rfl⟩
    case round =>
      obtain ⟨j, L, rfl, hj, hLj, o7, HL⟩ := hrel
      have HO := Lib.hid o7
      obtain ⟨x0, x1, x2⟩ := (HX2.out.later o7.below).l3
      clear o7
      by_cases hjn : (j : Int) < N
      · have hjn2 : decide ((j : Int) < N) = true := decide_eq_true hjn
        have hplc := HN.out.place (O + j) (by omega)
        rw [Int.natCast_add] at hplc
        have HPL := Lib.hid (rplace_any o u c ((O : Int) + (j : Int)) wr)
        rw [hplc] at HPL
        have HS : Hid (mapX U P C O (j + 1) = addX L (objP U P C (O + j)) (atP U P C (O + j)) j) := Lib.hid (by rw [HL.out]; rfl)
        have HLN : Hid ((mapX U P C O (j + 1)).length ≤ j + 1) := Lib.hid (mapX_len U P C O (j + 1))
        have hob := objP_le (U := U) (P := P) HN.out.c1 HN.out.c4 (off := O + j) (by omega)
        have hatl := atP_lt (C := C) (off := O + j) (show 0 < U by have := HN.out.u4; omega) (show 0 < P by have := HN.out.p1; omega)
        have hpu := HN.out.pu
        obtain ⟨OB, hOB⟩ : ∃ r, objP U P C (O + j) = r := ⟨_, rfl⟩
        obtain ⟨AT, hAT⟩ : ∃ r, atP U P C (O + j) = r := ⟨_, rfl⟩
        rw [hOB, hAT] at HPL HS
        rw [hOB] at hob
        rw [hAT] at hatl
        clear hOB hAT hplc
        go_wp2_with fail
        refine HPL.out.mono ?_
        rintro e w4 ⟨rfl, b4⟩
        have HO4 := Lib.hid (HO.out.later b4)
        clear b4 HPL x0 x1 x2 HO
        cases hLL : L.length with
        | zero =>
          have hLn : L = [] := List.length_eq_zero_iff.1 hLL
          subst hLn
          obtain ⟨av, cv, rfl, _⟩ := HO4.out.row_n (n := 0) xtOk rfl
          rw [addX_nil] at HS
          clear hLL
          have hm1 : decide ((-1 : Int) ≥ 0) = false := by decide
          go_upto_region 9 with fail
          go_quiet (fail)
          have HO5 := Lib.hid (HO4.out.later (below_drewN w4 nq))
          go_wp2_with (at_builtin; refine wp_gone xtOk rfl _ _ rfl rfl _ [] rfl w2 HO5.out (⟨OB, AT, 1, j⟩ : Xt) trivial rfl rfl (by simp) ?_; intro v9 w9 o9 _ _)
          go_roundw
          case rel => exact ⟨j + 1, _, by go_num, by omega, by simp, o9, Lib.hid (by rw [HS.out]; rfl)⟩
          case measure => simp [intOf]; omega
        | succ K =>
          obtain ⟨x, hx⟩ : ∃ x, L[K]? = some x := ⟨_, List.getElem?_eq_getElem (by omega)⟩
          rw [addX_last hLL hx] at HS
          have hxl : x.off ≤ 64 ∧ x.len ≤ j := by
            have h1 := hLL
            have h2 := hx
            rw [HL.out] at h1 h2
            exact mapX_last_le (by have := HN.out.u4; omega) (by have := HN.out.p1; omega) HN.out.pu h1 h2
          obtain ⟨g, cap, rfl, hcp, hcm, hg1, hg2⟩ := HO4.out.at hLL (by omega)
          obtain ⟨av, cv, hav, r4⟩ := HO4.out.row_n xtOk hLL
          cases hav
          obtain ⟨b4, o4, hbo, p0, p1, p2, p3⟩ := r4.x4 hx
          cases hbo
          have fz := HO4.out.frozenAt hLL (K * 4 + 2)
          simp only [Nat.zero_add] at p0 p1 p2 p3
          obtain ⟨xo, xf, xl, xa⟩ := x
          simp only at hxl HS p0 p1 p2 p3
          obtain ⟨Sm, hSm⟩ : ∃ r, xf + xl = r := ⟨_, rfl⟩
          rw [hSm] at HS
          have HW : Hid (IntKind.i64.wrap ((xf : Int) + (xl : Int)) = (Sm : Int)) := Lib.hid (wrap_add hSm (by omega))
          have HX := Lib.hid hx
          have HLL := Lib.hid hLL
          have hKj : K + 1 ≤ j := by omega
          have hcap9 : cap ≤ 9223372036854775807 := by unfold maxLen at hcm; omega
          clear r4 hx hLL hSm hcm
          by_cases h1 : xo = OB
          · have hd : ((xo : Int) == (OB : Int)) = true := by simp [h1]
            by_cases h2 : Sm = AT
            · have hd2 : ((Sm : Int) == (AT : Int)) = true := by simp [h2]
              rw [if_pos ⟨h1, h2⟩] at HS
              have HST := Lib.hid (fun W (hb : Below w4.heap.size w4 W) => (HO4.out.later hb).stored xtOk HLL.out (i := K) (k := 2) (t := ⟨xo, xf, xl, xa⟩) (t' := ⟨xo, xf, xl + 1, xa⟩) (v := .int .i64 ((xl : Int) + 1)) HX.out (by decide) (by show _ = _; simp) trivial)
              have HP2 : Hid (∀ W, Below w4.heap.size w4 W → W.cell? ⟨g, K * 4 + 2, none⟩ = some (.int .i64 (xl : Nat)) ∧ W.frozen? ⟨g, K * 4 + 2, none⟩ = false) := Lib.hid fun W hb => ⟨(hb.cell (World.block_lt_of_cell? _ _ p2)).trans p2, (HO4.out.later hb).frozenAt HLL.out (K * 4 + 2)⟩
              clear h1 h2 fz
              go_upto_region 9 with fail
              have hw := HW.out
              go_quiet (fail)
              clear hw
              generalize hwd : (w4.drewN nq) = wD at *
              have hbD : Below w4.heap.size w4 wD := by rw [← hwd]; exact below_drewN _ _
              have HS5 := Lib.hid (HST.out wD hbD)
              obtain ⟨p2', fz'⟩ := HP2.out wD hbD
              clear hwd hbD p0 p1 p2 p3 HST HP2
              go_wp2_with fail
              go_roundw
              case rel => exact ⟨j + 1, _, by go_num, by omega, by rw [List.length_set, HLL.out]; omega, HS5.out, Lib.hid (by rw [HS.out])⟩
              case measure => simp [intOf]; omega
            · have hd2 : ((Sm : Int) == (AT : Int)) = false := by simp; omega
              rw [if_neg (fun cc => h2 cc.2)] at HS
              clear h1 h2 fz
              go_upto_region 9 with fail
              have hw := HW.out
              go_quiet (fail)
              clear hw
              have HO5 := Lib.hid (HO4.out.later (below_drewN w4 nq))
              clear p0 p1 p2 p3
              go_wp2_with (at_builtin; refine wp_gone xtOk rfl _ _ rfl rfl _ L rfl w2 HO5.out (⟨OB, AT, 1, j⟩ : Xt) trivial rfl rfl (by rw [HLL.out]; omega) ?_; intro v9 w9 o9 _ _)
              go_roundw
              case rel => exact ⟨j + 1, _, by go_num, by omega, by rw [List.length_append, HLL.out]; simp; omega, o9, Lib.hid (by rw [HS.out])⟩
              case measure => simp [intOf]; omega
          · have hd : ((xo : Int) == (OB : Int)) = false := by simp; omega
            rw [if_neg (fun cc => h1 cc.1)] at HS
            clear h1 fz
            go_upto_region 9 with fail
            go_quiet (fail)
            have HO5 := Lib.hid (HO4.out.later (below_drewN w4 nq))
            clear p0 p1 p2 p3
            go_wp2_with (at_builtin; refine wp_gone xtOk rfl _ _ rfl rfl _ L rfl w2 HO5.out (⟨OB, AT, 1, j⟩ : Xt) trivial rfl rfl (by rw [HLL.out]; omega) ?_; intro v9 w9 o9 _ _)
            go_roundw
            case rel => exact ⟨j + 1, _, by go_num, by omega, by rw [List.length_append, HLL.out]; simp; omega, o9, Lib.hid (by rw [HS.out])⟩
            case measure => simp [intOf]; omega
      · have hjn2 : decide ((j : Int) < N) = false := decide_eq_false hjn
        have hjN : j = N := by omega
        have HE : Hid (R = L) := Lib.hid (by rw [HF.out, HL.out, hjN])
        clear hjN
        go_wp2_with fail
        go_ret
        rw [HE.out]
        exact ⟨_, rfl, HO.out.back HB2.out⟩
  · have hsd : decide (ShapeOk o u c) = false := decide_eq_false hs
    rw [hsd]
    have HF : Hid (R = []) := Lib.hid (by rw [← HR.out]; exact mapI_no (fun c => hs c.1))
    go_wp2_with fail
    go_ret
    rw [HF.out]
    exact ⟨_, rfl, GOwn.nil' HB2.out⟩
end Go.Proofs.Ytalgjoeinllllaa
