/- Chains: what bytes are: the document's own. -/
import Derived.Test.YtpeamfndanbhiaaChH
import Derived.Deep.RegionHeld3
import Derived.BigQuiet
namespace Go.Proofs.Ytpeamfndanbhiaa
open Go.RowKit Go.Proofs
set_option linter.unusedVariables false
set_option linter.unusedSimpArgs false

/-! ### numbers, one behind the other -/
def numsA (l : List UInt8) (p : Nat) : Nat → Option (List Nat × Nat)
  | 0 => some ([], p)
  | k + 1 => match numsA l p k with
    | none => none
    | some (vs, q) => match getVA l ((q : Nat) : Int) with
      | (o, q', z) => if z = true then some (vs ++ [o.toNat], q'.toNat) else none
theorem numsA_none {l : List UInt8} {p k : Nat} (h : numsA l p k = none) : ∀ m, numsA l p (k + m) = none
  | 0 => h
  | m + 1 => by
    have := numsA_none h m
    rw [show k + (m + 1) = (k + m) + 1 by omega, numsA, this]
theorem numsA_yes {l : List UInt8} {p k q : Nat} {vs : List Nat} {o : Int} {a : Nat} (h : numsA l p k = some (vs, q)) (hg : getVA l ((q : Nat) : Int) = (o, ((a : Nat) : Int), true)) : numsA l p (k + 1) = some (vs ++ [o.toNat], a) := by
  rw [numsA, h]; simp only [hg]; simp
theorem numsA_no {l : List UInt8} {p k q : Nat} {vs : List Nat} {o a : Int} (h : numsA l p k = some (vs, q)) (hg : getVA l ((q : Nat) : Int) = (o, a, false)) : numsA l p (k + 1) = none := by
  rw [numsA, h]; simp only [hg]; simp
/-- Of a chain's bytes a tag's four numbers are there. -/
theorem numsA_chain {l : List UInt8} {d : List Tg} {j : Nat} {t' : Tg} (hd : ChOk d) (hl : putC d = l) (ht : d[j]? = some t') : ∀ k, k ≤ 4 → numsA l (endC d j) k = some ((List.range k).map (fun i => (tagN t' i).toNat), endC d j + (tagP t' k).length)
  | 0, _ => rfl
  | k + 1, hk => by
    have ih := numsA_chain hd hl ht k (by omega)
    obtain ⟨o, q, z, hg⟩ : ∃ o q z, getVA l ((endC d j + (tagP t' k).length : Nat) : Int) = (o, q, z) := ⟨_, _, _, rfl⟩
    obtain ⟨a, rfl, _⟩ := getVA_place hg (Int.natCast_nonneg _)
    obtain ⟨h1, h2, h3⟩ := chain_step hd hl ht (by omega) rfl hg
    subst h3
    rw [numsA_yes ih hg, List.range_succ, List.map_append, h1, h2]
    rfl
def NumsP (l : List UInt8) (p : Nat) (w : World) (e : Ending) (w' : World) : Prop :=
  (∃ v vs q, numsA l p 4 = some (vs, q) ∧ e = .returned (.tuple #[v, .int .i64 (q : Nat), .bool true]) ∧ IOwn w w' v vs ∧ vs.length = 4 ∧ q ≤ l.length ∧ ∀ z ∈ vs, z < 9223372036854775808) ∨
  (numsA l p 4 = none ∧ e = .returned (.tuple #[.slice none 0 0, .int .i64 0, .bool false]) ∧ Below w.heap.size w w')
set_option maxRecDepth 20000 in
set_option maxHeartbeats 3200000 in
theorem numbers_any (ad : Option Addr) (n c : Nat) (l : List UInt8) (p : Nat) (w : World) (hr : Row w ad c l) (hn : l.length = n) (hlen : n ≤ 100000) (hp : p ≤ n) :
    Calls Try.prog 37 #[.slice ad n c, .int .i64 (p : Nat), .int .i64 4] w (NumsP l p w) := by
  have HR := Lib.hid hr
  have HN := Lib.hid hn
  have HP : Hid (p ≤ l.length) := Lib.hid (by omega)
  clear hr hn hp
  go_enter Try.func37, Try.ntmps37
  go_wp2_with fail
  go_loopw [1, 9, 10, 11, 12, 13] (fun at' v i _ _ _ wr => ∃ (j q : Nat) (vs : List Nat), at' = .int .i64 (q : Nat) ∧ i = .int .i64 (j : Nat) ∧ j ≤ 4 ∧ Hid (q ≤ l.length) ∧ Hid (vs.length = j) ∧ Hid (IOwn w wr v vs) ∧ Hid (numsA l p j = some (vs, q)) ∧ Hid (∀ z ∈ vs, z < 9223372036854775808)) (fun _ _ i _ _ _ _ => 4 - (intOf i).toNat)
  case atStart => exact ⟨0, p, [], rfl, rfl, by omega, HP, Lib.hid rfl, Lib.hid (IOwn.nil w), Lib.hid rfl, Lib.hid (fun z h => by cases h)⟩
  case round =>
    obtain ⟨j, q, vs, rfl, rfl, hj, hq, hl, hO, hA, hZ⟩ := hrel
    by_cases hj4 : (j : Int) < 4
    · obtain ⟨o, q2, z, hg⟩ : ∃ o q2 z, getVA l ((q : Nat) : Int) = (o, q2, z) := ⟨_, _, _, rfl⟩
      obtain ⟨a, rfl, ha⟩ := getVA_place hg (Int.natCast_nonneg _)
      have ho := getVA_nat hg
      obtain ⟨O, hO2⟩ : ∃ O : Nat, o = O := ⟨o.toNat, by omega⟩
      subst hO2
      have HK := Lib.hid (rgetvar_any ad n c l ((q : Nat) : Int) wr (HR.out.later hO.out.2) HN.out hlen (by omega) (by have := hq.out; have := HN.out; omega))
      rw [hg] at HK
      simp only [Got3] at HK
      cases z with
      | true =>
        have HA2 := Lib.hid (numsA_yes hA.out hg)
        rw [Int.toNat_natCast] at HA2
        have HQ : Hid (a ≤ l.length) := Lib.hid ha
        have HL2 : Hid ((vs ++ [O]).length = j + 1) := Lib.hid (by rw [List.length_append, hl.out]; rfl)
        have HZ2 : Hid (∀ z ∈ vs ++ [O], z < 9223372036854775808) := Lib.hid (fun z h => by
          rcases List.mem_append.1 h with h | h
          · exact hZ.out z h
          · simp at h; omega)
        clear hg ha ho
        go_wp2_with fail
        refine HK.out.mono ?_
        rintro e w2 ⟨rfl, rfl⟩
        go_wp2_with (at_builtin; refine wp_num rfl _ _ rfl _ _ rfl w hO.out _ O rfl rfl (by rw [hl.out]; omega) ?_; intro v2 w2 o2 hgr _)
        clear hgr
        have HO2 := Lib.hid o2
        clear o2
        go_wp2_with fail
        go_roundw
        case rel => exact ⟨j + 1, a, vs ++ [O], rfl, by go_num, by omega, HQ, HL2, HO2, HA2, HZ2⟩
        case measure => simp [intOf]; omega
      | false =>
        have HF : Hid (numsA l p 4 = none) := Lib.hid (by
          have := numsA_none (numsA_no hA.out hg) (4 - (j + 1))
          rw [show j + 1 + (4 - (j + 1)) = 4 by omega] at this
          exact this)
        clear hg ha ho
        go_wp2_with fail
        refine HK.out.mono ?_
        rintro e w2 ⟨rfl, rfl⟩
        go_wp2_with fail
        go_ret3
        exact .inr ⟨HF.out, rfl, hO.out.2⟩
    · obtain rfl : j = 4 := by omega
      go_wp2_with fail
      go_ret3
      exact .inl ⟨_, vs, q, hA.out, rfl, hO.out, hl.out, hq.out, hZ.out⟩

theorem step_tag {ops : Array Oper} {o : Oper} {a : Act} {w0 : World} {K : Act → World → Prop} {Q : Exit → Act → World → Prop} {E : Prop} (hgd : o.guard = none) (s x : Operand) (ho : o.op = .call { callee := .builtin .append, args := #[s, x], argTypes := #[22, 22] })
    (v : Value) (ts : List Tg) (hs : a.eval s = v) (W0 : World) (hown : TOwn W0 w0 v ts) (t : Tg) (ht : t.B) (hx : a.eval x = .slice (some ⟨w0.heap.size, 0, none⟩) 1 1) (hlen : ts.length + 1 ≤ 1000000)
    (hK : ∀ v' w', TOwn W0 w' v' (ts ++ [t]) → (w0.alloc (.cells #[.int .i64 t.id, .int .i64 t.owner, .int .i64 t.heir, .int .i64 t.at'] 43)).grownBy w' v.ownBlock → K (a.put o.dst v') w') :
    if Region.wanted o (yielded ops a.tmps) = true then Oper.wp Try.prog o a (w0.alloc (.cells #[.int .i64 t.id, .int .i64 t.owner, .int .i64 t.heir, .int .i64 t.at'] 43)) K Q else E := by
  have hw : Region.wanted o (yielded ops a.tmps) = true := by simp [Region.wanted, hgd]
  rw [if_pos hw]
  obtain ⟨i0, hi, hz0, hz1, hz2⟩ := info_parts info_tag
  have h1 := hown.later ((Below.refl _ _).alloc (Nat.le_refl _) (.cells #[.int .i64 t.id, .int .i64 t.owner, .int .i64 t.heir, .int .i64 t.at'] 43))
  have hrec := RecAt.new w0 #[.int .i64 t.id, .int .i64 t.owner, .int .i64 t.heir, .int .i64 t.at'] 43
  obtain ⟨v', w', hr, h2, h3, h4, h5⟩ := run_append_own_at (P := Try.prog) (w0.alloc (.cells #[.int .i64 t.id, .int .i64 t.owner, .int .i64 t.heir, .int .i64 t.at'] 43)) W0.heap.size 22 o.type 43 i0 _ 4 32 Try.underlying22 hi hz0 hz1 hz2 rfl (by decide) v _ _ h1.1 ⟨w0.heap.size, 0, none⟩ 1 1 (tagV t) rfl
    (fun j u hu => by
      have e0 : (⟨w0.heap.size, 0, none⟩ : Addr).add j = ⟨w0.heap.size, j, none⟩ := by unfold Addr.add; split <;> simp_all
      rw [e0]
      exact hrec.cell (by simpa [tagV] using hu))
    (fun u hu => by
      simp only [tagV, List.mem_cons, List.not_mem_nil, or_false] at hu
      rcases hu with rfl | rfl | rfl | rfl <;> rfl) (by unfold maxLen; omega) (by omega) h1.2.1.size
  unfold Oper.wp execOp
  simp only [ho, resolve, invoke, builtin, Sem.run_bind, Sem.run_pure, Result.andThen_ok, List.map_toArray, List.map_cons, List.map_nil, hs, hx, hr]
  refine hK _ _ ⟨by simpa using h2, h1.2.1.grown h3 h1.2.1.size (fun k hk => (World.ownsRow.lt h1.1 k hk).1), fun s hs => ?_⟩ h3
  rcases List.mem_append.1 hs with hs | hs
  · exact hown.2.2 s hs
  · simp at hs; subst hs; exact ht

/-! ### the document's Get -/
theorem get_vain {l : List UInt8} (h : ∀ d : List Tg, ChOk d → putC d = l → False) : getCh l = ([], 2) := getCh_none fun d hd hl => h d hd hl
theorem four {vs : List Nat} (h : vs.length = 4) : ∃ a b c d, vs = [a, b, c, d] := by
  match vs, h with
  | [a, b, c, d], _ => exact ⟨a, b, c, d, rfl⟩
set_option maxRecDepth 100000 in
set_option maxHeartbeats 6400000 in
theorem rget_any (ad : Option Addr) (n c : Nat) (l : List UInt8) (w : World) (hr : Row w ad c l) (hn : l.length = n) (hlen : n ≤ 100000) :
    Calls Try.prog 14 #[.slice ad n c] w (CGot l w) := by
  have HR := Lib.hid hr
  have HN := Lib.hid hn
  obtain ⟨o, q, z, hg⟩ : ∃ o q z, getVA l 0 = (o, q, z) := ⟨_, _, _, rfl⟩
  have hpl := getVA_place hg (by decide)
  obtain ⟨a, rfl, ha⟩ := hpl
  have ho := getVA_nat hg
  have HF := Lib.hid (first_num hg)
  have HK := Lib.hid (rgetvar_any ad n c l 0 w hr hn hlen (by decide) (by decide))
  rw [hg] at HK
  simp only [Got3] at HK
  have HA : Hid (a ≤ l.length) := Lib.hid ha
  clear hr hn hg ha
  cases z with
  | false =>
    have HG := Lib.hid (get_vain (l := l) fun d hd hl => by have := (HF.out d hd hl).2.2; cases this)
    go_enter Try.func14, Try.ntmps14
    go_wp2_with fail
    refine HK.out.mono ?_
    rintro e w1 ⟨rfl, rfl⟩
    go_wp2_with fail
    go_ret2
    exact cgot_no HG.out (Below.refl _ _)
  | true =>
    by_cases h32 : 32 < o
    · have HG := Lib.hid (get_vain (l := l) fun d hd hl => by have h1 := (HF.out d hd hl).1; have := hd.2.1; omega)
      go_enter Try.func14, Try.ntmps14
      go_wp2_with fail
      refine HK.out.mono ?_
      rintro e w1 ⟨rfl, rfl⟩
      go_wp2_with fail
      go_ret2
      exact cgot_no HG.out (Below.refl _ _)
    · obtain ⟨N, hN⟩ : ∃ N : Nat, o = N := ⟨o.toNat, by omega⟩
      subst hN
      have hN32 : N ≤ 32 := by omega
      have HFN : Hid (∀ d, ChOk d → putC d = l → N = d.length) := Lib.hid (fun d hd hl => by have := (HF.out d hd hl).1; omega)
      have HFA : Hid (∀ d, ChOk d → putC d = l → a = endC d 0) := Lib.hid (fun d hd hl => by have := (HF.out d hd hl).2.1; omega)
      clear HF h32 ho
      go_enter Try.func14, Try.ntmps14
      go_wp2_with fail
      refine HK.out.mono ?_
      rintro e w1 ⟨rfl, rfl⟩
      clear HK
      go_wp2_with fail
      go_loopw [5, 7, 8, 9, 10, 11] (fun v4 v i _ _ _ wr => ∃ (j p : Nat) (us : List Tg), i = .int .i64 j ∧ v4 = .int .i64 (p : Nat) ∧ j ≤ N ∧ Hid (p ≤ l.length) ∧ Hid (us.length = j) ∧ Hid (TOwn w wr v us) ∧ Hid (∀ d, ChOk d → putC d = l → us = d.take j ∧ p = endC d j)) (fun _ _ i _ _ _ _ => N - (intOf i).toNat)
      case atStart => exact ⟨0, a, [], rfl, rfl, by omega, HA, Lib.hid rfl, Lib.hid (TOwn.nil w), Lib.hid (fun d hd hl => ⟨rfl, HFA.out d hd hl⟩)⟩
      case round =>
        obtain ⟨j, p, us, rfl, rfl, hj, hp, hul, hO, hU⟩ := hrel
        by_cases hjn : (j : Int) < N
        · have HNM := Lib.hid (numbers_any ad n c l p wr (HR.out.later hO.out.below) HN.out hlen (by have := hp.out; have := HN.out; omega))
          have HCH : Hid (∀ d, ChOk d → putC d = l → ∃ t', d[j]? = some t' ∧ numsA l p 4 = some ([t'.id.toNat, t'.owner.toNat, t'.heir.toNat, t'.at'.toNat], endC d (j + 1))) := Lib.hid (fun d hd hl => by
            have h1 := HFN.out d hd hl
            have ht : d[j]? = some (d[j]'(by omega)) := List.getElem?_eq_getElem (by omega)
            refine ⟨_, ht, ?_⟩
            rw [(hU.out d hd hl).2, numsA_chain hd hl ht 4 (Nat.le_refl _), endC_succ ht, tagP_four]
            rfl)
          go_wp2_with fail
          refine HNM.out.mono ?_
          rintro e w2 (⟨v2, vs, q2, hA2, rfl, o2, hvl, hq2, hz⟩ | ⟨hA2, rfl, hb2⟩)
          · obtain ⟨x0, x1, x2, x3, rfl⟩ := four hvl
            obtain ⟨a2, c2, rfl, hc4, hcell⟩ := o2.row_n hvl
            obtain ⟨g, rfl, y0⟩ := hcell 0 x0 rfl
            obtain ⟨_, e1, y1⟩ := hcell 1 x1 rfl
            cases e1
            obtain ⟨_, e1, y2⟩ := hcell 2 x2 rfl
            cases e1
            obtain ⟨_, e1, y3⟩ := hcell 3 x3 rfl
            cases e1
            have hb0 := hz x0 (by simp)
            have hb1 := hz x1 (by simp)
            have hb2 := hz x2 (by simp)
            have hb3 := hz x3 (by simp)
            have HTB : Hid (Tg.B ⟨(x0 : Nat), (x1 : Nat), (x2 : Nat), (x3 : Nat)⟩) := Lib.hid (by unfold Tg.B I64; simp only; omega)
            have HQ2 : Hid (q2 ≤ l.length) := Lib.hid hq2
            have HO2 := Lib.hid (hO.out.later o2.2)
            have HU2 : Hid (∀ d, ChOk d → putC d = l → us ++ [⟨(x0 : Nat), (x1 : Nat), (x2 : Nat), (x3 : Nat)⟩] = d.take (j + 1) ∧ q2 = endC d (j + 1)) := Lib.hid (fun d hd hl => by
              obtain ⟨t', ht, hx⟩ := HCH.out d hd hl
              rw [hA2] at hx
              simp only [Option.some.injEq, Prod.mk.injEq, List.cons.injEq, and_true] at hx
              obtain ⟨⟨rfl, rfl, rfl, rfl⟩, rfl⟩ := hx
              have hi := hd.in ht
              unfold Tg.In at hi
              obtain ⟨h, rfl⟩ := List.getElem?_eq_some_iff.1 ht
              refine ⟨?_, rfl⟩
              rw [List.take_succ_eq_append_getElem h, (hU.out d hd hl).1]
              congr 1
              have e : ∀ t : Tg, t.In → (⟨(t.id.toNat : Int), (t.owner.toNat : Int), (t.heir.toNat : Int), (t.at'.toNat : Int)⟩ : Tg) = t := fun t h => by
                obtain ⟨a, b, c, d⟩ := t
                unfold Tg.In at h
                simp only at h
                simp only [Tg.mk.injEq]
                omega
              rw [e _ (hd.in ht)])
            have HUL : Hid ((us ++ [(⟨(x0 : Nat), (x1 : Nat), (x2 : Nat), (x3 : Nat)⟩ : Tg)]).length = j + 1) := Lib.hid (by rw [List.length_append, hul.out]; rfl)
            have HGB : Hid (wr.heap.size ≤ g) := Lib.hid (World.ownsRow.lt o2.1 g rfl).1
            have HNE : Hid (∀ v, TOwn w wr v us → some g ≠ v.ownBlock) := Lib.hid (fun v h e => by
              have := (World.ownsRow.lt h.1 g e.symm).2; have := HGB.out; omega)
            have HY : Hid (∀ W, Below w2.heap.size w2 W → W.cell? ⟨g, 0, none⟩ = some (.int .i64 (x0 : Nat)) ∧ W.cell? ⟨g, 1, none⟩ = some (.int .i64 (x1 : Nat)) ∧ W.cell? ⟨g, 2, none⟩ = some (.int .i64 (x2 : Nat)) ∧ W.cell? ⟨g, 3, none⟩ = some (.int .i64 (x3 : Nat))) := by
              have z0 := y0; have z1 := y1; have z2 := y2; have z3 := y3
              exact Lib.hid (fun W h => ⟨(Below.cell h (World.block_lt_of_cell? _ _ z0)).trans z0, (Below.cell h (World.block_lt_of_cell? _ _ z1)).trans z1, (Below.cell h (World.block_lt_of_cell? _ _ z2)).trans z2, (Below.cell h (World.block_lt_of_cell? _ _ z3)).trans z3⟩)
            have HNV := Lib.hid (HNE.out _ hO.out)
            clear hA2 hvl hq2 hz hcell o2 hO hb0 hb1 hb2 hb3 HNM HNE
            go_upto_region 11 with fail
            go_region_held3 (fun w' => w'.cell? ⟨g, 0, none⟩ = some (.int .i64 (x0 : Nat)) ∧ w'.cell? ⟨g, 1, none⟩ = some (.int .i64 (x1 : Nat)) ∧ w'.cell? ⟨g, 2, none⟩ = some (.int .i64 (x2 : Nat)) ∧ w'.cell? ⟨g, 3, none⟩ = some (.int .i64 (x3 : Nat))) (first | go_keep | exact ⟨g4.cell (HY.out _ ((below_drewN w2 _).alloc (by simp) _)).1 HNV.out, g4.cell (HY.out _ ((below_drewN w2 _).alloc (by simp) _)).2.1 HNV.out, g4.cell (HY.out _ ((below_drewN w2 _).alloc (by simp) _)).2.2.1 HNV.out, g4.cell (HY.out _ ((below_drewN w2 _).alloc (by simp) _)).2.2.2 HNV.out⟩)
              ((refine step_tag (by rfl) _ _ (by rfl) _ us (by rfl) w (HO2.out.later (below_drewN _ _)) ⟨(x0 : Nat), (x1 : Nat), (x2 : Nat), (x3 : Nat)⟩ HTB.out (by rfl) (by rw [hul.out]; omega) ?_; intro v4 w4 o4 g4))
            clear HY y0 y1 y2 y3
            have HO4 := Lib.hid o4
            clear o4 g4
            go_wp2_with fail
            go_roundw
            case rel => exact ⟨j + 1, q2, _, by go_num, rfl, by omega, HQ2, HUL, HO4, HU2⟩
            case measure => simp [intOf]; omega
          · have HG := Lib.hid (get_vain (l := l) fun d hd hl => by
              obtain ⟨t', _, hx⟩ := HCH.out d hd hl
              rw [hA2] at hx; cases hx)
            have HB2 := Lib.hid (hO.out.below.trans (hb2.mono hO.out.below.size))
            clear hA2 hb2
            go_wp2_with fail
            go_ret2
            exact cgot_no HG.out HB2.out
        · have : j = N := by omega
          subst this
          have HG : Hid (GuessC l us) := Lib.hid (fun d hd hl => by rw [(hU.out d hd hl).1, HFN.out d hd hl, List.take_length])
          obtain ⟨a1, c1, rfl, r1⟩ := hO.out.row_n hul.out
          have HO1 := hO
          have HB1 := Lib.hid hO.out.below
          have HP := Lib.hid (rput_any a1 j c1 us wr r1 hul.out)
          clear r1
          cases hx : rightC us with
          | false =>
            rw [putCh_no hx] at HP
            have HF := Lib.hid (guessC_not HG.out (.inl hx))
            clear hx
            go_wp2_with fail
            refine HP.out.mono ?_
            rintro e w2 ⟨v2, rfl, o2⟩
            have HB2 := Lib.hid (HB1.out.trans (o2.below.mono HB1.out.size))
            clear o2
            go_wp2_with fail
            go_ret2
            exact cgot_no HF.out HB2.out
          | true =>
            rw [putCh_yes hx] at HP
            have HX := Lib.hid hx
            clear hx
            go_wp2_with fail
            refine HP.out.mono ?_
            rintro e w2 ⟨v2, rfl, o2⟩
            obtain ⟨m2, hm2⟩ : ∃ m, (putC us).length = m := ⟨_, rfl⟩
            obtain ⟨a2, c2, rfl, r2⟩ := o2.row_n hm2
            have HB2 := Lib.hid (HB1.out.trans (o2.below.mono HB1.out.size))
            have HO2 := Lib.hid (HO1.out.later o2.below)
            have q1 := conv_row_n r2 hm2
            have q2 := conv_row_n (HR.out.later HB2.out) HN.out
            have HBE : Hid (((⟨(putC us).toArray⟩ : ByteArray) = ⟨l.toArray⟩) ↔ putC us = l) := Lib.hid bytes_eq
            generalize (⟨(putC us).toArray⟩ : ByteArray) = S1 at *
            generalize (⟨l.toArray⟩ : ByteArray) = S2 at *
            clear o2 r2 hm2
            by_cases he : putC us = l
            · have HF := Lib.hid (guessC_yes HX.out he)
              have hd : (S1.toList == S2.toList) = true := (sbeq_iff _ _).2 (HBE.out.2 he)
              have hd2 : (S1.toList != S2.toList) = false := by rw [bne, hd]; rfl
              clear he
              go_wp2_with fail
              go_ret2
              unfold CGot
              rw [HF.out]
              exact ⟨_, rfl, HO2.out⟩
            · have HF := Lib.hid (guessC_not HG.out (.inr he))
              have hd : (S1.toList == S2.toList) = false := sbeq_no fun h => he (HBE.out.1 h)
              have hd2 : (S1.toList != S2.toList) = true := by rw [bne, hd]; rfl
              clear he
              go_wp2_with fail
              go_ret2
              exact cgot_no HF.out HB2.out
end Go.Proofs.Ytpeamfndanbhiaa
