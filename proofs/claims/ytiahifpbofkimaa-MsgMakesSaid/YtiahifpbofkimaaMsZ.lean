/- Messages: the law's Make, kind 2: a chain and entries. Printed by gen_msmake3.py. -/
import Derived.Test.YtiahifpbofkimaaGQ
namespace Go.Proofs.Ytiahifpbofkimaa
open Go.RowKit Go.Proofs
set_option linter.unusedVariables false
set_option linter.unusedSimpArgs false
set_option linter.unnecessarySimpa false

theorem run_slBm {w W : World} {a : Option Addr} {m cap lo hi : Nat} {l : List UInt8} (h : Row w a cap l) (hm : l.length = m) (h1 : lo ≤ hi) (h2 : hi ≤ m) :
    (Instr.slice 25 (.slice a m cap) (some (.int .i64 lo)) (some (.int .i64 hi)) none).run Try.prog W = .ok (.slice (cutA 1 a lo cap) (hi - lo) (cap - lo)) W := by
  have hc := h.1
  have h3 : hi ≤ cap := by omega
  cases a with
  | none =>
    have := h.2.2.1 rfl
    obtain rfl : lo = 0 := by omega
    obtain rfl : hi = 0 := by omega
    simp [Instr.slice, Instr.sliceBounds, Instr.sliceBound, asIntOf, run_underlying Try.underlying25, Result.andThen, this, cutA]
  | some x =>
    simp [Instr.slice, Instr.sliceBounds, Instr.sliceBound, asIntOf, run_underlying Try.underlying25, Result.andThen, h1, h3, cutA]
theorem Row.cutBm {w : World} {a : Option Addr} {cap : Nat} {l : List UInt8} (h : Row w a cap l) {lo hi : Nat} (h1 : lo ≤ hi) (h2 : hi ≤ l.length) : Row w (cutA 1 a lo cap) (cap - lo) ((l.drop lo).take (hi - lo)) := by
  have hc := h.1
  unfold cutA
  by_cases e : cap = lo
  · rw [if_pos e]
    have : (l.drop lo).take (hi - lo) = [] := by rw [List.drop_of_length_le (by omega)]; simp
    rw [this]
    exact Row.empty w a _ (by have := h.2.1; omega) (fun ha => by have := h.2.2.1 ha; omega)
  · rw [if_neg e]
    cases a with
    | none => have := h.2.2.1 rfl; omega
    | some x =>
      have hl : 0 < l.length ∨ l.length = 0 := by omega
      obtain ⟨b, off, sp⟩ := x
      cases sp with
      | none =>
        have h3 := (h.drop lo (by omega)).take (hi - lo)
        have e2 : (⟨b, off, .none⟩ : Addr).add (lo * 1) = ⟨b, off + lo, .none⟩ := by unfold Addr.add; split <;> simp_all
        show Row w (some ((⟨b, off, .none⟩ : Addr).add (lo * 1))) _ _
        rw [e2]
        exact h3
      | some s =>
        rcases hl with hl | hl
        · obtain ⟨b', o', hx, _⟩ := h.at hl
          cases hx
        · have : (l.drop lo).take (hi - lo) = [] := by rw [List.drop_of_length_le (by omega)]; simp
          rw [this]
          exact Row.empty w _ _ (by have := h.2.1; omega) (fun ha => by cases ha)
theorem TRow.kept {w w' : World} {a : Option Addr} {cap : Nat} {ts : List Tg} {row : Option Nat} (h : TRow w a cap ts) (hg : w.grownBy w' row) (hne : ∀ x, a = some x → some x.block ≠ row) : TRow w' a cap ts := by
  refine ⟨h.1, h.2.1, h.2.2.1, h.2.2.2.1, fun y hy i e he => ?_⟩
  obtain ⟨hs, c0, c1, c2, c3⟩ := h.2.2.2.2 y hy i e he
  exact ⟨hs, hg.cell c0 (hne y hy), hg.cell c1 (hne y hy), hg.cell c2 (hne y hy), hg.cell c3 (hne y hy)⟩
theorem hv_gappF {α : Type} {R : RT α} (hR : R.Ok) {ops : Array Oper} {Q : Exit → Act → World → Prop} {L L' : List SV} {J' : World → Prop} {i : Nat} {a : Act} {w : World} {o : Oper} (hi : ops[i]? = some o) (hg : o.guard = none) (s x : Operand) {S : TypeId}
    (ho : o.op = .call { callee := .builtin .append, args := #[s, x], argTypes := #[S, S] }) (hS : S = R.S)
    (v : Value) (ts : List α) (hs : a.eval s = v) (W0 : World) (hown : GOwn R W0 w v ts) (ad : Option Addr) (cap n : Nat) (us : List α) (hr : GRow R w ad cap us) (hn : us.length = n) (hx : a.eval x = .slice ad n cap) (hlen : ts.length + us.length ≤ 1000000)
    (h : ∀ v' w', GOwn R W0 w' v' (ts ++ us) → w.grownBy w' v.ownBlock → (v'.ownBlock = v.ownBlock ∨ v'.ownBlock = some w.heap.size) → VL L' i w' v' ∧ J' w' ∧ ∀ k v0, k ≠ i → VL L k w v0 → VL L' k w' v0) : HvGoal Try.prog ops Q L L' J' i a w := by
  subst hS
  obtain ⟨v', w', h1, h2, h3, h4⟩ := run_gapp hR v ts W0 hown ad cap n us hr hn o.type hlen
  obtain ⟨g1, g2, g3⟩ := h v' w' h2 h3 h4
  refine hv_run (v := v') (w' := w') hi hg ?_ g1 g2 g3
  unfold execOp
  simp only [ho, resolve, invoke, builtin, Sem.run_bind, Sem.run_pure, Result.andThen_ok, List.map_toArray, List.map_cons, List.map_nil, hs, hx, h1]
def gB (W0 : World) (B : Nat) (fs : List Fx) : SV := ⟨fun w v => GOwn fxT W0 w v fs ∧ ∀ g, v.ownBlock = some g → B ≤ g, fun w w' v h hb => ⟨h.1.later hb, h.2⟩⟩
def jM (W W0 : World) (P B : Nat) (v : Value) (gs : List Fx) : Nat → World → Prop
  | 0, w => Below W.heap.size W w
  | 1, w => ∃ wa wb, Below W.heap.size W wa ∧ wa.grownBy wb v.ownBlock ∧ Below wb.heap.size wb w
  | _ + 2, w => ∃ wa wb w6 v', Below W.heap.size W wa ∧ wa.grownBy wb v.ownBlock ∧ Below wb.heap.size wb w6 ∧ GOwn fxT W0 w6 v' gs ∧ (∀ g, v'.ownBlock = some g → B ≤ g) ∧ Below (w6.setCell ⟨P, 7, none⟩ v').heap.size (w6.setCell ⟨P, 7, none⟩ v') w
theorem jM_st (W W0 : World) (P B : Nat) (v : Value) (gs : List Fx) : ∀ ph w w', jM W W0 P B v gs ph w → Below w.heap.size w w' → jM W W0 P B v gs ph w'
  | 0, w, w', h, hb => Below.trans (h : Below W.heap.size W w) (hb.mono (Below.size h))
  | 1, w, w', ⟨wa, wb, h1, h2, h3⟩, hb => ⟨wa, wb, h1, h2, h3.trans (hb.mono h3.size)⟩
  | _ + 2, w, w', ⟨wa, wb, w6, v', h1, h2, h3, h4, h5, h6⟩, hb => ⟨wa, wb, w6, v', h1, h2, h3, h4, h5, h6.trans (hb.mono h6.size)⟩
/-- Entries of a message under way. -/
def EnsM (p : Int) (es : List En) : Prop := ∀ (i : Nat) e, es[i]? = some e → e.right = true ∧ e.seq = p + 1 + i
theorem EnsM.snoc {p : Int} {es : List En} {e : En} (h : EnsM p es) (h1 : e.right = true) (h2 : e.seq = p + 1 + es.length) : EnsM p (es ++ [e]) := fun i u hu => by
  by_cases c : i < es.length
  · rw [List.getElem?_append_left c] at hu; exact h i u hu
  · have hi : i = es.length := by have := (List.getElem?_eq_some_iff.1 hu).1; rw [List.length_append, List.length_singleton] at this; omega
    subst hi
    rw [List.getElem?_append_right (Nat.le_refl _), Nat.sub_self, List.getElem?_cons_zero, Option.some.injEq] at hu
    subst hu
    exact ⟨h1, h2⟩
theorem EnsM.ok {p : Int} {es : List En} (h : EnsM p es) (hl : es.length ≤ 4) : EntsOk p es := ⟨hl, fun i _ e he => h i e he⟩
set_option maxRecDepth 20000 in
set_option maxHeartbeats 6400000 in
theorem makeMs_2 (kd : Int) (ad : Option Addr) (n c : Nat) (zs : List Int) (ap : Option Addr) (np cp : Nat) (pl : List UInt8) (w : World) (hr : ZRow w ad c zs) (hn : zs.length = n) (hn2 : n ≤ 1000) (hp : Row w ap cp pl) (hpl : pl.length = np) (hk : 1 + bits .and .i64 kd 255 % 9 = 2) :
    Calls Try.prog 18 #[.int .i64 kd, .slice ad n c, .slice ap np cp] w (MadeP w) := by
  have HSV := Lib.hid (fun W (h : Below w.heap.size w W) => seven_any ad n c zs W (hr.later h) hn)
  have HR := Lib.hid hr
  have HN := Lib.hid hn
  have HPL := Lib.hid hp
  have HPN := Lib.hid hpl
  have hcp := hp.1
  rw [hpl] at hcp
  have hcpm : cp ≤ 9223372036854775807 := by have := hp.2.1; unfold maxLen at this; omega
  have HB1 := Lib.hid ((Below.refl w.heap.size w).alloc (Nat.le_refl _) (.cells zeroMs 27))
  have HX1 := Lib.hid (RecAt.new w zeroMs 27)
  obtain ⟨q, hq, hq0, hq1⟩ := and_lo kd 255 (by decide)
  rw [show ((255 : Nat) : Int) = 255 from rfl] at hq
  rw [hq] at hk
  clear hr hn hp hpl
  go_enter Try.func18, Try.ntmps18
  go_upto_region 1 with fail
  simp only [zeroMs] at HB1 HX1
  generalize (w.alloc (.cells #[.int .i64 0, .int .i64 0, .int .i64 0, .int .i64 0, .int .i64 0, .int .i64 0, .slice none 0 0, .slice none 0 0, .slice none 0 0, .slice none 0 0] 27)) = w1 at *
  obtain ⟨P6, hP6⟩ : ∃ P, w.heap.size = P := ⟨_, rfl⟩
  have HP6 := Lib.hid hP6
  rw [hP6]
  rw [hP6] at HX1
  clear hP6
  go_upto_region 2 with (go_at_call 52; refine (HSV.out w1 HB1.out).mono ?_; rintro e w2 ⟨z0, z1, z2, z3, z4, z5, z6, rfl, b2⟩; have HB2 := Lib.hid b2; clear b2)
  have HX7 := Lib.hid (RecAt.new w2 (sevC z0 z1 z2 z3 z4 z5 z6) 76)
  have hba : Below w2.heap.size w2 (w2.alloc (.cells (sevC z0 z1 z2 z3 z4 z5 z6) 76)) := (Below.refl _ _).alloc (Nat.le_refl _) _
  have HX3 := Lib.hid ((HX1.out.later HB2.out).later hba)
  have HB3 := Lib.hid ((HB1.out.trans (HB2.out.mono HB1.out.size)).trans (hba.mono (HB1.out.trans (HB2.out.mono HB1.out.size)).size))
  clear hba HX1 HB1 HB2 HSV
  generalize (w2.alloc (.cells (sevC z0 z1 z2 z3 z4 z5 z6) 76)) = w3 at *
  obtain ⟨P7, hP7⟩ : ∃ P, w2.heap.size = P := ⟨_, rfl⟩
  rw [hP7] at HX7
  rw [hP7]
  clear hP7
  have t0 := HX7.out.cell (i := 0) rfl
  obtain ⟨r0, hr0, hr00, hr01⟩ := and_lo z0 1048575 (by decide)
  rw [show ((1048575 : Nat) : Int) = 1048575 from rfl] at hr0
  go_upto_region 3 with fail
  have HN0 : Hid (1 ≤ 1 + r0 ∧ 1 + r0 ≤ 1048576) := Lib.hid (by omega)
  obtain ⟨N0, hN0⟩ : ∃ N, 1 + r0 = N := ⟨_, rfl⟩
  rw [hN0]
  rw [hN0] at HN0
  have HX8 := Lib.hid (RecAt.new w3 #[.int .i64 2, .int .i64 N0, .int .i64 0, .int .i64 0, .int .i64 0, .int .i64 0, .slice none 0 0, .slice none 0 0, .slice none 0 0, .slice none 0 0] 27)
  have hba : Below w3.heap.size w3 (w3.alloc (.cells #[.int .i64 2, .int .i64 N0, .int .i64 0, .int .i64 0, .int .i64 0, .int .i64 0, .slice none 0 0, .slice none 0 0, .slice none 0 0, .slice none 0 0] 27)) := (Below.refl _ _).alloc (Nat.le_refl _) _
  have HX64 := Lib.hid (HX3.out.later hba)
  have HX74 := Lib.hid (HX7.out.later hba)
  have HB4 := Lib.hid (HB3.out.trans (hba.mono HB3.out.size))
  have HP83 : Hid (P6 < w3.heap.size ∧ P7 < w3.heap.size) := Lib.hid ⟨HX3.out.lt, HX7.out.lt⟩
  clear hba HX3 HX7 HB3 t0 hr0 hr00 hr01 hN0 hq hq0 hq1 hk
  generalize (w3.alloc (.cells #[.int .i64 2, .int .i64 N0, .int .i64 0, .int .i64 0, .int .i64 0, .int .i64 0, .slice none 0 0, .slice none 0 0, .slice none 0 0, .slice none 0 0] 27)) = w4 at *
  obtain ⟨P8, hP8⟩ : ∃ P, w3.heap.size = P := ⟨_, rfl⟩
  rw [hP8] at HX8 HP83
  rw [hP8]
  clear hP8
  obtain ⟨y0, y1, y2, y3, y4, y5, y6, y7, y8, y9⟩ := HX8.out.c10
  have t1 := HX74.out.cell (i := 1) rfl
  obtain ⟨v1, hv1, hv10, hv11⟩ := and_lo z1 65535 (by decide)
  rw [show ((65535 : Nat) : Int) = 65535 from rfl] at hv1 hv11
  have t2 := HX74.out.cell (i := 2) rfl
  obtain ⟨v2, hv2, hv20, hv21⟩ := and_lo z2 65535 (by decide)
  rw [show ((65535 : Nat) : Int) = 65535 from rfl] at hv2 hv21
  have HGW := Lib.hid (fun W (h : Below w.heap.size w W) => grow_any ad n c zs W (HR.out.later h) HN.out hn2)
  have f2 := HX8.out.frozen 2
  have f3 := HX8.out.frozen 3
  have HV1 : Hid (0 ≤ v1 ∧ v1 ≤ 65535) := Lib.hid ⟨hv10, hv11⟩
  have HMO : Hid (∀ C E, ChOk C → EntsOk v1 E → MsOk ⟨2, N0, v1, v2, 0, 0, C, E, [], []⟩) := Lib.hid (fun C E hC hE => ok_2 HN0.out ⟨hv10, hv11⟩ ⟨hv20, hv21⟩ hC hE)
  have t3 : (w4.setCell ⟨P8, 2, none⟩ (.int .i64 v1)).drew.cell? ⟨P7, 2, none⟩ = some (.int .i64 z2) := ((HX74.out.other (y := P8) (by have := HP83.out; omega) 2 (.int .i64 v1)).later (Below.refl _ _).drew).cell rfl
  clear hv10 hv11 hv20 hv21
  go_upto_region 7 with fail
  go_region
  go_upto_region 8 with fail
  have HX85 := Lib.hid (((HX8.out.set 2 (.int .i64 v1)).set 3 (.int .i64 v2)).later (Below.refl _ _).drew)
  simp only [List.setIfInBounds_toArray, List.set_cons_zero, List.set_cons_succ] at HX85
  have HX65 := Lib.hid (((HX64.out.other (y := P8) (by have := HP83.out; omega) 2 (.int .i64 v1)).other (y := P8) (by have := HP83.out; omega) 3 (.int .i64 v2)).later (Below.refl _ _).drew)
  have HB5 := Lib.hid (((HB4.out.setCell (p := ⟨P8, 2, none⟩) (by have := HP83.out; have := HP6.out; simp only; omega) (.int .i64 v1)).setCell (p := ⟨P8, 3, none⟩) (by have := HP83.out; have := HP6.out; simp only; omega) (.int .i64 v2)).drew)
  have HX75 := Lib.hid (((HX74.out.other (y := P8) (by have := HP83.out; omega) 2 (.int .i64 v1)).other (y := P8) (by have := HP83.out; omega) 3 (.int .i64 v2)).later (Below.refl _ _).drew)
  generalize (((w4.setCell ⟨P8, 2, none⟩ (.int .i64 v1)).setCell ⟨P8, 3, none⟩ (.int .i64 v2)).drew) = w5 at *
  clear HX8 HX64 HX74 HB4 y0 y1 y2 y3 y4 y5 y6 y7 y8 y9
  obtain ⟨y0, y1, y2, y3, y4, y5, y6, y7, y8, y9⟩ := HX85.out.c10
  clear t1 t2 t3 f2 f3 hv1 hv2
  have HGX := Lib.hid (HGW.out w5 HB5.out)
  clear HGW
  go_upto_region 9 with (go_at_call 53; refine HGX.out.mono ?_; rintro e w6 ⟨v6, C, E, rfl, o6, hgr⟩; obtain ⟨nc, hnc⟩ : ∃ k, C.length = k := ⟨_, rfl⟩; obtain ⟨a6, c6, rfl, rw6⟩ := o6.row_n hnc; have HC6 := Lib.hid rw6; have HNC := Lib.hid hnc; have HN6 := Lib.hid o6.nms; have HCO := Lib.hid hgr.1; have HX86 := Lib.hid (HX85.out.later o6.below); have HX66 := Lib.hid (HX65.out.later o6.below); have HX76 := Lib.hid (HX75.out.later o6.below); have HB6 := Lib.hid (HB5.out.trans (o6.below.mono HB5.out.size)); clear o6 hgr hnc rw6 HX85 HX65 HX75 HB5 HGX; obtain ⟨y0, y1, y2, y3, y4, y5, y6, y7, y8, y9⟩ := HX86.out.c10; have f6 := HX86.out.frozen 6)
  obtain ⟨B, hB⟩ : ∃ B, w6.heap.size = B := ⟨_, rfl⟩
  have HB8 : Hid (P8 < B) := Lib.hid (by rw [← hB]; exact HX86.out.lt)
  have HA6 : Hid (∀ x, a6 = some x → x.block < B ∧ x.block ≠ P8 ∧ x.block ≠ P6) := Lib.hid (fun x hx => ⟨by rw [← hB]; exact (HN6.out x hx).1, HN6.out.ne HX86.out x hx, HN6.out.ne HX66.out x hx⟩)
  have HX87 := Lib.hid (HX86.out.set 6 (.slice a6 nc c6))
  simp only [List.setIfInBounds_toArray, List.set_cons_zero, List.set_cons_succ] at HX87
  have HX67 := Lib.hid (HX66.out.other (y := P8) (by have := HP83.out; omega) 6 (.slice a6 nc c6))
  have HX77 := Lib.hid (HX76.out.other (y := P8) (by have := HP83.out; omega) 6 (.slice a6 nc c6))
  have HB7 := Lib.hid (HB6.out.setCell (p := ⟨P8, 6, none⟩) (by have := HP83.out; have := HP6.out; simp only; omega) (.slice a6 nc c6))
  have HC7 := Lib.hid (HC6.out.only (OnlyP.set w6 P8 6 (.slice a6 nc c6)) (HN6.out.ne HX86.out))
  have HBW : Hid (B ≤ (w6.setCell ⟨P8, 6, none⟩ (.slice a6 nc c6)).heap.size) := Lib.hid (by rw [← hB]; simp)
  generalize (w6.setCell ⟨P8, 6, none⟩ (.slice a6 nc c6)) = w7 at *
  clear hB HX86 HX66 HX76 HB6 HC6 HN6 y0 y1 y2 y3 y4 y5 y6 y7 y8 y9 f6
  obtain ⟨v3, hv3, hv30, hv31⟩ := and_lo z3 3 (by decide)
  rw [show ((3 : Nat) : Int) = 3 from rfl] at hv3 hv31
  obtain ⟨v4, hv4, hv40, hv41⟩ := and_lo z4 63 (by decide)
  rw [show ((63 : Nat) : Int) = 63 from rfl] at hv4 hv41
  obtain ⟨V3, hV3⟩ : ∃ V3 : Nat, v3 = (V3 : Nat) := ⟨v3.toNat, by omega⟩
  have hV33 : V3 ≤ 3 := by omega
  rw [hV3] at hv3
  have HV4 : Hid (0 ≤ v4 ∧ v4 ≤ 63) := Lib.hid ⟨hv40, by omega⟩
  clear hV3 hv30 hv31 hv40 hv41
  go_wp2_with fail
  go_loopw [9] (fun i wr => ∃ (j : Nat) (es : List En) (fs : List Fx) (ae : Option Addr) (ce : Nat), i = .int .i64 (j : Nat) ∧ j ≤ V3 ∧ Hid (es.length = j) ∧ Hid (RecAt wr P8 #[.int .i64 2, .int .i64 N0, .int .i64 v1, .int .i64 v2, .int .i64 0, .int .i64 0, .slice a6 nc c6, .slice ae j ce, .slice none 0 0, .slice none 0 0] 27) ∧ Hid (RecAt wr P6 zeroMs 27) ∧ Hid (RecAt wr P7 (sevC z0 z1 z2 z3 z4 z5 z6) 76) ∧ Hid (Below w.heap.size w wr) ∧ Hid (TRow wr a6 c6 C) ∧ Hid (GOwn fxT w wr (.slice ae j ce) fs) ∧ Hid (Deep w fs es) ∧ Hid (∀ g, (Value.slice ae j ce).ownBlock = some g → B ≤ g) ∧ Hid (B ≤ wr.heap.size) ∧ Hid (EnsM v1 es)) (fun i _ => V3 - (intOf i).toNat)
  case atStart => exact ⟨0, [], [], none, 0, rfl, by omega, Lib.hid rfl, HX87, HX67, HX77, HB7, HC7, Lib.hid (GOwn.nil' HB7.out), Lib.hid ⟨rfl, fun i f e hf => by simp at hf⟩, Lib.hid (fun g hg => by simp [Value.ownBlock] at hg), HBW, Lib.hid (fun i e he => by simp at he)⟩
  case round =>
    clear HX87 HX67 HX77 HB7 HC7 HBW
    obtain ⟨j, es, fs, ae, ce, rfl, hj, hL, hX8, hX6, hX7, hB, hTR, hO, hDP, hF, HWB, hE⟩ := hrel
    obtain ⟨y0, y1, y2, y3, y4, y5, y6, y7, y8, y9⟩ := hX8.out.c10
    have s3 := hX7.out.cell (i := 3) rfl
    by_cases hjN : (j : Int) < V3
    · by_cases hjp : (j : Int) < np
      · obtain ⟨wo, hwo⟩ : ∃ W, W = wr := ⟨_, rfl⟩
        subst hwo
        go_upto_region 12 with fail
        obtain ⟨H, hH⟩ : ∃ H : Nat, min ((np : Nat) : Int) ((j : Nat) + 40) = (H : Nat) := ⟨(min ((np : Nat) : Int) ((j : Nat) + 40)).toNat, by omega⟩
        have HH := Lib.hid hH
        obtain ⟨L, hLL⟩ : ∃ L, H - j = L := ⟨_, rfl⟩
        have hjH : j ≤ H := by omega
        have hHn : H ≤ np := by omega
        have HLR : Hid (1 ≤ L ∧ L ≤ 40) := Lib.hid (by omega)
        have HSL0 := fun W => run_slBm (W := W) HPL.out HPN.out hjH hHn
        rw [hLL] at HSL0
        have HSL := Lib.hid HSL0
        have HCT0 := HPL.out.cutBm (lo := j) (hi := H) hjH (by rw [HPN.out]; exact hHn)
        rw [hLL] at HCT0
        have HCT := Lib.hid HCT0
        have HDL : Hid (((pl.drop j).take L).length = L) := Lib.hid (by rw [List.length_take, List.length_drop, HPN.out]; omega)
        clear hH hLL hjH hHn HSL0 HCT0
        have W1 : Hid (IntKind.i64.wrap (1 + v4) = 1 + v4) := Lib.hid (by have := HV4.out; rw [IntKind.wrap_i64]; omega)
        have W2 : Hid (IntKind.i64.wrap (v1 + 1) = v1 + 1) := Lib.hid (by have := HV1.out; rw [IntKind.wrap_i64]; omega)
        have W3 : Hid (IntKind.i64.wrap (v1 + 1 + (j : Nat)) = v1 + 1 + (j : Nat)) := Lib.hid (by have := HV1.out; rw [IntKind.wrap_i64]; omega)
        have W4 : Hid (IntKind.i64.wrap ((j : Nat) + 40) = (j : Nat) + 40) := Lib.hid (by rw [IntKind.wrap_i64]; omega)
        have HFN : Hid (fs.length = j) := Lib.hid (by rw [hDP.out.1, hL.out])
        have HT2 : Hid (fs.length + [(⟨1 + v4, v1 + 1 + (j : Nat), cutA 1 ap j cp, L, cp - j⟩ : Fx)].length ≤ 1000000) := Lib.hid (by rw [HFN.out]; simp; omega)
        have HLEN : Hid ((fs ++ [(⟨1 + v4, v1 + 1 + (j : Nat), cutA 1 ap j cp, L, cp - j⟩ : Fx)]).length = j + 1) := Lib.hid (by rw [List.length_append, HFN.out]; rfl)
        have ub0 := Try.underlying23
        have ub1 := Try.isAgg44
        have ub2 := Try.sizeOf44
        -- REG A
        refine wp_region_ptab (L := fun ph => match ph with | 0 => [cV (.pointer (some ⟨P8, 7, none⟩)), cV (.slice ae j ce), cV (.pointer (some ⟨P7, 4, none⟩)), cV (.int .i64 z4), cV (.int .i64 v4), cV (.int .i64 (1 + v4)), cV (.pointer (some ⟨P8, 2, none⟩)), cV (.int .i64 v1), cV (.int .i64 (v1 + 1)), cV (.int .i64 (j : Nat)), cV (.int .i64 (v1 + 1 + (j : Nat))), cV (.slice ap np cp), cV (.int .i64 (j : Nat)), cV (.slice ap np cp), cV (.int .i64 (np : Nat)), cV (.int .i64 (j : Nat)), cV (.int .i64 ((j : Nat) + 40)), cV (.int .i64 (H : Nat)), cV (.slice (cutA 1 ap j cp) L (cp - j)), cV (.agg #[.int .i64 (1 + v4), .int .i64 (v1 + 1 + (j : Nat)), .slice (cutA 1 ap j cp) L (cp - j)]), rcV wo #[.int .i64 (1 + v4), .int .i64 (v1 + 1 + (j : Nat)), .slice (cutA 1 ap j cp) L (cp - j)], nV, cV (.pointer (some ⟨P8, 7, none⟩)), tV] | 1 => [cV (.pointer (some ⟨P8, 7, none⟩)), cV (.slice ae j ce), cV (.pointer (some ⟨P7, 4, none⟩)), cV (.int .i64 z4), cV (.int .i64 v4), cV (.int .i64 (1 + v4)), cV (.pointer (some ⟨P8, 2, none⟩)), cV (.int .i64 v1), cV (.int .i64 (v1 + 1)), cV (.int .i64 (j : Nat)), cV (.int .i64 (v1 + 1 + (j : Nat))), cV (.slice ap np cp), cV (.int .i64 (j : Nat)), cV (.slice ap np cp), cV (.int .i64 (np : Nat)), cV (.int .i64 (j : Nat)), cV (.int .i64 ((j : Nat) + 40)), cV (.int .i64 (H : Nat)), cV (.slice (cutA 1 ap j cp) L (cp - j)), cV (.agg #[.int .i64 (1 + v4), .int .i64 (v1 + 1 + (j : Nat)), .slice (cutA 1 ap j cp) L (cp - j)]), tV, gB w B (fs ++ [⟨1 + v4, v1 + 1 + (j : Nat), cutA 1 ap j cp, L, cp - j⟩]), cV (.pointer (some ⟨P8, 7, none⟩)), tV] | _ => [cV (.pointer (some ⟨P8, 7, none⟩)), cV (.slice ae j ce), cV (.pointer (some ⟨P7, 4, none⟩)), cV (.int .i64 z4), cV (.int .i64 v4), cV (.int .i64 (1 + v4)), cV (.pointer (some ⟨P8, 2, none⟩)), cV (.int .i64 v1), cV (.int .i64 (v1 + 1)), cV (.int .i64 (j : Nat)), cV (.int .i64 (v1 + 1 + (j : Nat))), cV (.slice ap np cp), cV (.int .i64 (j : Nat)), cV (.slice ap np cp), cV (.int .i64 (np : Nat)), cV (.int .i64 (j : Nat)), cV (.int .i64 ((j : Nat) + 40)), cV (.int .i64 (H : Nat)), cV (.slice (cutA 1 ap j cp) L (cp - j)), cV (.agg #[.int .i64 (1 + v4), .int .i64 (v1 + 1 + (j : Nat)), .slice (cutA 1 ap j cp) L (cp - j)]), tV, tV, cV (.pointer (some ⟨P8, 7, none⟩)), tV]) (jM wo w P8 B (.slice ae j ce) (fs ++ [⟨1 + v4, v1 + 1 + (j : Nat), cutA 1 ap j cp, L, cp - j⟩])) [21, 23] [(0, 0), (0, 0), (0, 0), (0, 0), (0, 0), (0, 0), (0, 0), (0, 0), (0, 0), (0, 0), (0, 0), (0, 0), (0, 0), (0, 0), (0, 0), (0, 0), (0, 0), (0, 0), (0, 0), (0, 0), (0, 0), (0, 1), (0, 1), (1, 2)] [[(8, none)], [(62, some 0)], [(7, none)], [(64, some 2)], [(65, some 3)], [(66, some 4)], [(8, none)], [(68, some 6)], [(69, some 7)], [(9, none)], [(70, some 8), (71, some 9)], [(2, none)], [(9, none)], [(2, none)], [(75, some 13)], [(9, none)], [(77, some 15)], [(76, some 14), (78, some 16)], [(73, some 11), (74, some 12), (79, some 17)], [(67, some 5), (72, some 10), (80, some 18)], [(81, some 19)], [(63, some 1), (82, some 20)], [(8, none)], [(84, some 22), (83, some 21)]] 24 2 137 (by kernel_rfl) rfl rfl rfl (by kernel_rfl) (by kernel_rfl) (by decide) (by kernel_rfl) ?_ ?_ ?_ ?_ ?_
        · exact jM_st wo w P8 B (.slice ae j ce) _
        · exact Below.refl _ _
        · show ∀ i, i < 24 → _
          iterate 24 (refine fls ?_ ?_)
          · exact fl0
          · intro hne lo hi ph hran hp1 hp2 a w1 hJ hsz hs      -- 0: slot 62
            obtain ⟨rfl, rfl⟩ : 0 = lo ∧ 0 = hi := Prod.mk.inj (Option.some.inj hran)
            obtain rfl : ph = 0 := by omega
            obtain ⟨h0, _⟩ := hs
            have h0 : a.tmps.getD 8 undef = .pointer (some ⟨P8, 0, none⟩) := h0
            refine op_run rfl rfl (v := .pointer (some ⟨P8, 7, none⟩)) (w' := w1) ?_ rfl (Below.refl _ _)
            simp [execOp, Act.eval, h0, go_sem]
          · intro hne lo hi ph hran hp1 hp2 a w1 hJ hsz hs      -- 1: slot 63
            obtain ⟨rfl, rfl⟩ : 0 = lo ∧ 0 = hi := Prod.mk.inj (Option.some.inj hran)
            obtain rfl : ph = 0 := by omega
            obtain ⟨h0, _⟩ := hs
            have h0 : a.tmps.getD 62 undef = .pointer (some ⟨P8, 7, none⟩) := h0
            have k0 : w1.cell? ⟨P8, 7, none⟩ = some (.slice ae j ce) := (hX8.out.later (show Below wo.heap.size wo w1 from hJ)).cell rfl
            refine op_run rfl rfl (v := .slice ae j ce) (w' := w1) ?_ rfl (Below.refl _ _)
            simp [execOp, Act.eval, h0, k0, go_sem]
          · intro hne lo hi ph hran hp1 hp2 a w1 hJ hsz hs      -- 2: slot 64
            obtain ⟨rfl, rfl⟩ : 0 = lo ∧ 0 = hi := Prod.mk.inj (Option.some.inj hran)
            obtain rfl : ph = 0 := by omega
            obtain ⟨h0, _⟩ := hs
            have h0 : a.tmps.getD 7 undef = .pointer (some ⟨P7, 0, none⟩) := h0
            refine op_run rfl rfl (v := .pointer (some ⟨P7, 4, none⟩)) (w' := w1) ?_ rfl (Below.refl _ _)
            simp [execOp, Act.eval, h0, go_sem]
          · intro hne lo hi ph hran hp1 hp2 a w1 hJ hsz hs      -- 3: slot 65
            obtain ⟨rfl, rfl⟩ : 0 = lo ∧ 0 = hi := Prod.mk.inj (Option.some.inj hran)
            obtain rfl : ph = 0 := by omega
            obtain ⟨h0, _⟩ := hs
            have h0 : a.tmps.getD 64 undef = .pointer (some ⟨P7, 4, none⟩) := h0
            have k0 : w1.cell? ⟨P7, 4, none⟩ = some (.int .i64 z4) := (hX7.out.later (show Below wo.heap.size wo w1 from hJ)).cell rfl
            refine op_run rfl rfl (v := .int .i64 z4) (w' := w1) ?_ rfl (Below.refl _ _)
            simp [execOp, Act.eval, h0, k0, go_sem]
          · intro hne lo hi ph hran hp1 hp2 a w1 hJ hsz hs      -- 4: slot 66
            obtain ⟨rfl, rfl⟩ : 0 = lo ∧ 0 = hi := Prod.mk.inj (Option.some.inj hran)
            obtain rfl : ph = 0 := by omega
            obtain ⟨h0, _⟩ := hs
            have h0 : a.tmps.getD 65 undef = .int .i64 z4 := h0
            refine op_run rfl rfl (v := .int .i64 v4) (w' := w1) ?_ rfl (Below.refl _ _)
            simp [execOp, Act.eval, h0, hv4, go_sem]
          · intro hne lo hi ph hran hp1 hp2 a w1 hJ hsz hs      -- 5: slot 67
            obtain ⟨rfl, rfl⟩ : 0 = lo ∧ 0 = hi := Prod.mk.inj (Option.some.inj hran)
            obtain rfl : ph = 0 := by omega
            obtain ⟨h0, _⟩ := hs
            have h0 : a.tmps.getD 66 undef = .int .i64 v4 := h0
            refine op_run rfl rfl (v := .int .i64 (1 + v4)) (w' := w1) ?_ rfl (Below.refl _ _)
            simp [execOp, Act.eval, h0, W1.out, go_sem]
          · intro hne lo hi ph hran hp1 hp2 a w1 hJ hsz hs      -- 6: slot 68
            obtain ⟨rfl, rfl⟩ : 0 = lo ∧ 0 = hi := Prod.mk.inj (Option.some.inj hran)
            obtain rfl : ph = 0 := by omega
            obtain ⟨h0, _⟩ := hs
            have h0 : a.tmps.getD 8 undef = .pointer (some ⟨P8, 0, none⟩) := h0
            refine op_run rfl rfl (v := .pointer (some ⟨P8, 2, none⟩)) (w' := w1) ?_ rfl (Below.refl _ _)
            simp [execOp, Act.eval, h0, go_sem]
          · intro hne lo hi ph hran hp1 hp2 a w1 hJ hsz hs      -- 7: slot 69
            obtain ⟨rfl, rfl⟩ : 0 = lo ∧ 0 = hi := Prod.mk.inj (Option.some.inj hran)
            obtain rfl : ph = 0 := by omega
            obtain ⟨h0, _⟩ := hs
            have h0 : a.tmps.getD 68 undef = .pointer (some ⟨P8, 2, none⟩) := h0
            have k0 : w1.cell? ⟨P8, 2, none⟩ = some (.int .i64 v1) := (hX8.out.later (show Below wo.heap.size wo w1 from hJ)).cell rfl
            refine op_run rfl rfl (v := .int .i64 v1) (w' := w1) ?_ rfl (Below.refl _ _)
            simp [execOp, Act.eval, h0, k0, go_sem]
          · intro hne lo hi ph hran hp1 hp2 a w1 hJ hsz hs      -- 8: slot 70
            obtain ⟨rfl, rfl⟩ : 0 = lo ∧ 0 = hi := Prod.mk.inj (Option.some.inj hran)
            obtain rfl : ph = 0 := by omega
            obtain ⟨h0, _⟩ := hs
            have h0 : a.tmps.getD 69 undef = .int .i64 v1 := h0
            refine op_run rfl rfl (v := .int .i64 (v1 + 1)) (w' := w1) ?_ rfl (Below.refl _ _)
            simp [execOp, Act.eval, h0, W2.out, go_sem]
          · intro hne lo hi ph hran hp1 hp2 a w1 hJ hsz hs      -- 9: slot 71
            obtain ⟨rfl, rfl⟩ : 0 = lo ∧ 0 = hi := Prod.mk.inj (Option.some.inj hran)
            obtain rfl : ph = 0 := by omega
            obtain ⟨h0, _⟩ := hs
            have h0 : a.tmps.getD 9 undef = .int .i64 (j : Nat) := h0
            refine op_run rfl rfl (v := .int .i64 (j : Nat)) (w' := w1) ?_ rfl (Below.refl _ _)
            simp [execOp, Act.eval, h0, go_sem]
          · intro hne lo hi ph hran hp1 hp2 a w1 hJ hsz hs      -- 10: slot 72
            obtain ⟨rfl, rfl⟩ : 0 = lo ∧ 0 = hi := Prod.mk.inj (Option.some.inj hran)
            obtain rfl : ph = 0 := by omega
            obtain ⟨h0, h1, _⟩ := hs
            have h0 : a.tmps.getD 70 undef = .int .i64 (v1 + 1) := h0
            have h1 : a.tmps.getD 71 undef = .int .i64 (j : Nat) := h1
            refine op_run rfl rfl (v := .int .i64 (v1 + 1 + (j : Nat))) (w' := w1) ?_ rfl (Below.refl _ _)
            simp [execOp, Act.eval, h0, h1, W3.out, go_sem]
          · intro hne lo hi ph hran hp1 hp2 a w1 hJ hsz hs      -- 11: slot 73
            obtain ⟨rfl, rfl⟩ : 0 = lo ∧ 0 = hi := Prod.mk.inj (Option.some.inj hran)
            obtain rfl : ph = 0 := by omega
            obtain ⟨h0, _⟩ := hs
            have h0 : a.tmps.getD 2 undef = .slice ap np cp := h0
            refine op_run rfl rfl (v := .slice ap np cp) (w' := w1) ?_ rfl (Below.refl _ _)
            simp [execOp, Act.eval, h0, go_sem]
          · intro hne lo hi ph hran hp1 hp2 a w1 hJ hsz hs      -- 12: slot 74
            obtain ⟨rfl, rfl⟩ : 0 = lo ∧ 0 = hi := Prod.mk.inj (Option.some.inj hran)
            obtain rfl : ph = 0 := by omega
            obtain ⟨h0, _⟩ := hs
            have h0 : a.tmps.getD 9 undef = .int .i64 (j : Nat) := h0
            refine op_run rfl rfl (v := .int .i64 (j : Nat)) (w' := w1) ?_ rfl (Below.refl _ _)
            simp [execOp, Act.eval, h0, go_sem]
          · intro hne lo hi ph hran hp1 hp2 a w1 hJ hsz hs      -- 13: slot 75
            obtain ⟨rfl, rfl⟩ : 0 = lo ∧ 0 = hi := Prod.mk.inj (Option.some.inj hran)
            obtain rfl : ph = 0 := by omega
            obtain ⟨h0, _⟩ := hs
            have h0 : a.tmps.getD 2 undef = .slice ap np cp := h0
            refine op_run rfl rfl (v := .slice ap np cp) (w' := w1) ?_ rfl (Below.refl _ _)
            simp [execOp, Act.eval, h0, go_sem]
          · intro hne lo hi ph hran hp1 hp2 a w1 hJ hsz hs      -- 14: slot 76
            obtain ⟨rfl, rfl⟩ : 0 = lo ∧ 0 = hi := Prod.mk.inj (Option.some.inj hran)
            obtain rfl : ph = 0 := by omega
            obtain ⟨h0, _⟩ := hs
            have h0 : a.tmps.getD 75 undef = .slice ap np cp := h0
            refine op_run rfl rfl (v := .int .i64 (np : Nat)) (w' := w1) ?_ rfl (Below.refl _ _)
            simp [execOp, Act.eval, h0, go_sem]
          · intro hne lo hi ph hran hp1 hp2 a w1 hJ hsz hs      -- 15: slot 77
            obtain ⟨rfl, rfl⟩ : 0 = lo ∧ 0 = hi := Prod.mk.inj (Option.some.inj hran)
            obtain rfl : ph = 0 := by omega
            obtain ⟨h0, _⟩ := hs
            have h0 : a.tmps.getD 9 undef = .int .i64 (j : Nat) := h0
            refine op_run rfl rfl (v := .int .i64 (j : Nat)) (w' := w1) ?_ rfl (Below.refl _ _)
            simp [execOp, Act.eval, h0, go_sem]
          · intro hne lo hi ph hran hp1 hp2 a w1 hJ hsz hs      -- 16: slot 78
            obtain ⟨rfl, rfl⟩ : 0 = lo ∧ 0 = hi := Prod.mk.inj (Option.some.inj hran)
            obtain rfl : ph = 0 := by omega
            obtain ⟨h0, _⟩ := hs
            have h0 : a.tmps.getD 77 undef = .int .i64 (j : Nat) := h0
            refine op_run rfl rfl (v := .int .i64 ((j : Nat) + 40)) (w' := w1) ?_ rfl (Below.refl _ _)
            simp [execOp, Act.eval, h0, W4.out, go_sem]
          · intro hne lo hi ph hran hp1 hp2 a w1 hJ hsz hs      -- 17: slot 79
            obtain ⟨rfl, rfl⟩ : 0 = lo ∧ 0 = hi := Prod.mk.inj (Option.some.inj hran)
            obtain rfl : ph = 0 := by omega
            obtain ⟨h0, h1, _⟩ := hs
            have h0 : a.tmps.getD 76 undef = .int .i64 (np : Nat) := h0
            have h1 : a.tmps.getD 78 undef = .int .i64 ((j : Nat) + 40) := h1
            refine op_run rfl rfl (v := .int .i64 (H : Nat)) (w' := w1) ?_ rfl (Below.refl _ _)
            simp [execOp, Act.eval, h0, h1, HH.out, go_sem]
          · intro hne lo hi ph hran hp1 hp2 a w1 hJ hsz hs      -- 18: slot 80
            obtain ⟨rfl, rfl⟩ : 0 = lo ∧ 0 = hi := Prod.mk.inj (Option.some.inj hran)
            obtain rfl : ph = 0 := by omega
            obtain ⟨h0, h1, h2, _⟩ := hs
            have h0 : a.tmps.getD 73 undef = .slice ap np cp := h0
            have h1 : a.tmps.getD 74 undef = .int .i64 (j : Nat) := h1
            have h2 : a.tmps.getD 79 undef = .int .i64 (H : Nat) := h2
            have k0 := HSL.out w1
            refine op_run rfl rfl (v := .slice (cutA 1 ap j cp) L (cp - j)) (w' := w1) ?_ rfl (Below.refl _ _)
            simp [execOp, Act.eval, h0, h1, h2, k0, go_sem]
          · intro hne lo hi ph hran hp1 hp2 a w1 hJ hsz hs      -- 19: slot 81
            obtain ⟨rfl, rfl⟩ : 0 = lo ∧ 0 = hi := Prod.mk.inj (Option.some.inj hran)
            obtain rfl : ph = 0 := by omega
            obtain ⟨h0, h1, h2, _⟩ := hs
            have h0 : a.tmps.getD 67 undef = .int .i64 (1 + v4) := h0
            have g0 : a.tmps[67]?.getD undef = .int .i64 (1 + v4) := (Array.getD_eq_getD_getElem? ..).symm.trans h0
            have h1 : a.tmps.getD 72 undef = .int .i64 (v1 + 1 + (j : Nat)) := h1
            have g1 : a.tmps[72]?.getD undef = .int .i64 (v1 + 1 + (j : Nat)) := (Array.getD_eq_getD_getElem? ..).symm.trans h1
            have h2 : a.tmps.getD 80 undef = .slice (cutA 1 ap j cp) L (cp - j) := h2
            have g2 : a.tmps[80]?.getD undef = .slice (cutA 1 ap j cp) L (cp - j) := (Array.getD_eq_getD_getElem? ..).symm.trans h2
            refine op_run rfl rfl (v := .agg #[.int .i64 (1 + v4), .int .i64 (v1 + 1 + (j : Nat)), .slice (cutA 1 ap j cp) L (cp - j)]) (w' := w1) ?_ rfl (Below.refl _ _)
            simp [execOp, Act.eval, g0, g1, g2, go_sem]
          · intro hne lo hi ph hran hp1 hp2 a w1 hJ hsz hs      -- 20: slot 82
            obtain ⟨rfl, rfl⟩ : 0 = lo ∧ 0 = hi := Prod.mk.inj (Option.some.inj hran)
            obtain rfl : ph = 0 := by omega
            obtain ⟨h0, _⟩ := hs
            have h0 : a.tmps.getD 81 undef = .agg #[.int .i64 (1 + v4), .int .i64 (v1 + 1 + (j : Nat)), .slice (cutA 1 ap j cp) L (cp - j)] := h0
            have g0 : a.tmps[81]?.getD undef = .agg #[.int .i64 (1 + v4), .int .i64 (v1 + 1 + (j : Nat)), .slice (cutA 1 ap j cp) L (cp - j)] := (Array.getD_eq_getD_getElem? ..).symm.trans h0
            refine op_run rfl rfl (v := .slice (some ⟨w1.heap.size, 0, none⟩) 1 1) (w' := w1.alloc (.cells #[.int .i64 (1 + v4), .int .i64 (v1 + 1 + (j : Nat)), .slice (cutA 1 ap j cp) L (cp - j)] 44)) ?_ ⟨w1.heap.size, rfl, RecAt.new w1 _ _, (show Below wo.heap.size wo w1 from hJ).size⟩ ((Below.refl _ _).alloc (Nat.le_refl _) _)
            simp [execOp, Act.eval, g0, go_sem, ub0, ub1, ub2]
          · intro hne lo hi ph hran hp1 hp2 a w1 hJ hsz hs      -- 21: slot 83
            exact absurd (by decide) hne
          · intro hne lo hi ph hran hp1 hp2 a w1 hJ hsz hs      -- 22: slot 84
            obtain ⟨rfl, rfl⟩ : 0 = lo ∧ 1 = hi := Prod.mk.inj (Option.some.inj hran)
            rcases (by omega : ph = 0 ∨ ph = 1) with rfl | rfl
            · obtain ⟨h0, _⟩ := hs
              have h0 : a.tmps.getD 8 undef = .pointer (some ⟨P8, 0, none⟩) := h0
              refine op_run rfl rfl (v := .pointer (some ⟨P8, 7, none⟩)) (w' := w1) ?_ rfl (Below.refl _ _)
              simp [execOp, Act.eval, h0, go_sem]
            · obtain ⟨h0, _⟩ := hs
              have h0 : a.tmps.getD 8 undef = .pointer (some ⟨P8, 0, none⟩) := h0
              refine op_run rfl rfl (v := .pointer (some ⟨P8, 7, none⟩)) (w' := w1) ?_ rfl (Below.refl _ _)
              simp [execOp, Act.eval, h0, go_sem]
          · intro hne lo hi ph hran hp1 hp2 a w1 hJ hsz hs      -- 23: slot None
            exact absurd (by decide) hne
        · show ∀ ph, ph < 2 → _
          iterate 2 (refine fls ?_ ?_)
          · exact fl0
          · intro i hi a w1 hJ hsz hs      -- heavy 0: op 21 slot 83
            obtain rfl : 21 = i := Option.some.inj hi
            obtain ⟨h0, h1, _⟩ := hs
            have h0 : a.tmps.getD 63 undef = .slice ae j ce := h0
            have m1 : (rcV wo #[.int .i64 (1 + v4), .int .i64 (v1 + 1 + (j : Nat)), .slice (cutA 1 ap j cp) L (cp - j)]).p w1 (a.tmps.getD 82 undef) := h1
            obtain ⟨x, hv1, hx, hxs⟩ := (show ∃ g, a.tmps.getD 82 undef = .slice (some ⟨g, 0, none⟩) 1 1 ∧ RecAt w1 g #[.int .i64 (1 + v4), .int .i64 (v1 + 1 + (j : Nat)), .slice (cutA 1 ap j cp) L (cp - j)] 44 ∧ wo.heap.size ≤ g from m1)
            have hB := (show Below wo.heap.size wo w1 from hJ)
            refine hv_gappF fxOk rfl rfl (.tmp 63) (.tmp 82) rfl rfl (.slice ae j ce) fs h0 w (hO.out.later hB) (some ⟨x, 0, none⟩) 1 1 [(⟨1 + v4, v1 + 1 + (j : Nat), cutA 1 ap j cp, L, cp - j⟩ : Fx)] (grow_of_rec fxOk hx trivial rfl) rfl hv1 HT2.out ?_
            intro v' w' o1 g1 e1
            exact ⟨⟨o1, fun g hg => by rcases e1 with e1 | e1 <;> rw [e1] at hg; exact hF.out g hg; (cases hg; exact Nat.le_trans HWB.out hB.size)⟩, ⟨w1, w', hB, g1, Below.refl _ _⟩, (Calm5.all (n := 0) ⟨.inr fun _ h => h, .inr fun _ h => h, .inr fun _ h => h, .inr fun _ h => h, .inr fun _ h => h, .inr fun _ h => h, .inr fun _ h => h, .inr fun _ h => h, .inr fun _ h => h, .inr fun _ h => h, .inr fun _ h => h, .inr fun _ h => h, .inr fun _ h => h, .inr fun _ h => h, .inr fun _ h => h, .inr fun _ h => h, .inr fun _ h => h, .inr fun _ h => h, .inr fun _ h => h, .inr fun _ h => h, .inr fun _ _ => trivial, .inl rfl, .inr fun _ h => h, .inr fun _ _ => trivial, trivial⟩)⟩
          · intro i hi a w1 hJ hsz hs      -- heavy 1: op 23 slot None
            obtain rfl : 23 = i := Option.some.inj hi
            obtain ⟨h0, h1, _⟩ := hs
            have h0 : a.tmps.getD 84 undef = .pointer (some ⟨P8, 7, none⟩) := h0
            have g0 : a.tmps[84]?.getD undef = .pointer (some ⟨P8, 7, none⟩) := (Array.getD_eq_getD_getElem? ..).symm.trans h0
            have m1 : (gB w B (fs ++ [⟨1 + v4, v1 + 1 + (j : Nat), cutA 1 ap j cp, L, cp - j⟩])).p w1 (a.tmps.getD 83 undef) := h1
            obtain ⟨wa, wb, j1, j2, j3⟩ := (show ∃ wa wb, Below wo.heap.size wo wa ∧ wa.grownBy wb (Value.slice ae j ce).ownBlock ∧ Below wb.heap.size wb w1 from hJ)
            obtain ⟨m11, m12⟩ := (show GOwn fxT w w1 (a.tmps.getD 83 undef) (fs ++ [⟨1 + v4, v1 + 1 + (j : Nat), cutA 1 ap j cp, L, cp - j⟩]) ∧ ∀ g, (a.tmps.getD 83 undef).ownBlock = some g → B ≤ g from m1)
            obtain ⟨aE, cE, he, _⟩ := m11.row_n fxOk HLEN.out
            have he2 : a.tmps[83]?.getD undef = .slice aE (j + 1) cE := by rw [← Array.getD_eq_getD_getElem?]; exact he
            have hr8 := ((hX8.out.later j1).grown j2 (fun e => by have := hF.out _ e.symm; have := HB8.out; omega)).later j3
            have cc : w1.cell? ⟨P8, 7, none⟩ = some (.slice ae j ce) := hr8.cell rfl
            have cf := hr8.frozen 7
            refine hv_skip rfl rfl (w' := w1.setCell ⟨P8, 7, none⟩ (.slice aE (j + 1) cE)) ?_ trivial ⟨wa, wb, w1, _, j1, j2, j3, by rw [← he]; exact m11, by rw [← he]; exact m12, Below.refl _ _⟩ (Calm5.all (n := 0) ⟨.inr fun _ h => h, .inr fun _ h => h, .inr fun _ h => h, .inr fun _ h => h, .inr fun _ h => h, .inr fun _ h => h, .inr fun _ h => h, .inr fun _ h => h, .inr fun _ h => h, .inr fun _ h => h, .inr fun _ h => h, .inr fun _ h => h, .inr fun _ h => h, .inr fun _ h => h, .inr fun _ h => h, .inr fun _ h => h, .inr fun _ h => h, .inr fun _ h => h, .inr fun _ h => h, .inr fun _ h => h, .inr fun _ _ => trivial, .inr fun _ _ => trivial, .inr fun _ h => h, .inl rfl, trivial⟩)
            simp [execOp, Act.eval, h0, g0, he, he2, go_sem, cc, cf]
        intro f w1 hJ hv
        clear hv
        try simp only [Exit.then]
        simp only [putAll, List.foldl_cons, List.foldl_nil, Option.getD_some, Act.put, List.setIfInBounds_toArray, List.set_cons_succ, List.set_cons_zero]
        obtain ⟨wa, wb, w6', v6, j1, j2, j3, o5, hb6, hb7⟩ := (show ∃ wa wb w6 v', Below wo.heap.size wo wa ∧ wa.grownBy wb (Value.slice ae j ce).ownBlock ∧ Below wb.heap.size wb w6 ∧ GOwn fxT w w6 v' (fs ++ [⟨1 + v4, v1 + 1 + (j : Nat), cutA 1 ap j cp, L, cp - j⟩]) ∧ (∀ g, v'.ownBlock = some g → B ≤ g) ∧ Below (w6.setCell ⟨P8, 7, none⟩ v').heap.size (w6.setCell ⟨P8, 7, none⟩ v') w1 from hJ)
        obtain ⟨aE, cE, rfl, rE⟩ := o5.row_n fxOk HLEN.out
        -- END A
        have hne8 : some P8 ≠ (Value.slice ae j ce).ownBlock := fun e => by have := hF.out _ e.symm; have := HB8.out; omega
        have hne6 : some P6 ≠ (Value.slice ae j ce).ownBlock := fun e => by have := hF.out _ e.symm; have := HB8.out; have := HP83.out; omega
        have hne7 : some P7 ≠ (Value.slice ae j ce).ownBlock := fun e => by have := hF.out _ e.symm; have := HB8.out; have := HP83.out; omega
        have HX8n := Lib.hid (((((hX8.out.later j1).grown j2 hne8).later j3).set 7 (.slice aE (j + 1) cE)).later hb7)
        simp only [List.setIfInBounds_toArray, List.set_cons_zero, List.set_cons_succ] at HX8n
        have HX6n := Lib.hid (((((hX6.out.later j1).grown j2 hne6).later j3).other (y := P8) (by have := HP83.out; omega) 7 (.slice aE (j + 1) cE)).later hb7)
        have HX7n := Lib.hid (((((hX7.out.later j1).grown j2 hne7).later j3).other (y := P8) (by have := HP83.out; omega) 7 (.slice aE (j + 1) cE)).later hb7)
        have HBs := o5.below.setCell (p := ⟨P8, 7, none⟩) (by have := HP83.out; have := HP6.out; simp only; omega) (.slice aE (j + 1) cE)
        have HBn := Lib.hid (HBs.trans (hb7.mono HBs.size))
        have HTRn := Lib.hid (((((hTR.out.later j1).kept j2 (fun x hx e => by have := hF.out _ e.symm; have := HA6.out x hx; omega)).later j3).only (OnlyP.set w6' P8 7 (.slice aE (j + 1) cE)) (fun x hx => (HA6.out x hx).2.1)).later hb7)
        have HOn := Lib.hid ((o5.besides (g := P8) (by have := HP83.out; have := HP6.out; omega) (fun e => by have := hb6 _ e; have := HB8.out; omega) 7 (.slice aE (j + 1) cE)).later hb7)
        have HDn := Lib.hid (hDP.out.snoc (f := ⟨1 + v4, v1 + 1 + (j : Nat), cutA 1 ap j cp, L, cp - j⟩) (e := ⟨1 + v4, v1 + 1 + (j : Nat), (pl.drop j).take L⟩) rfl rfl HDL.out.symm HCT.out)
        have HFn : Hid (∀ g, (Value.slice aE (j + 1) cE).ownBlock = some g → B ≤ g) := Lib.hid hb6
        have HWn : Hid (B ≤ w1.heap.size) := Lib.hid (by have h1 := HWB.out; have h2 := j1.size; have h3 := j2.size; have h4 := j3.size; have h5 := hb7.size; simp only [World.size_setCell] at h5; omega)
        have HLn : Hid ((es ++ [(⟨1 + v4, v1 + 1 + (j : Nat), (pl.drop j).take L⟩ : En)]).length = j + 1) := Lib.hid (by rw [List.length_append, hL.out]; rfl)
        have HEn : Hid (EnsM v1 (es ++ [(⟨1 + v4, v1 + 1 + (j : Nat), (pl.drop j).take L⟩ : En)])) := Lib.hid (hE.out.snoc (by show rightE (1 + v4) (v1 + 1 + (j : Nat)) ((pl.drop j).take L).length = true; rw [HDL.out]; exact rightE_iff.2 (by have := HV4.out; have := HV1.out; have := HLR.out; omega)) (by rw [hL.out]))
        clear o5 hb6 hb7 rE j1 j2 j3 HBs hne8 hne6 hne7
        go_wp2_with fail
        all_goals exact ⟨⟨j + 1, _, _, aE, cE, by go_num, by omega, HLn, HX8n, HX6n, HX7n, HBn, HTRn, HOn, HDn, HFn, HWn, HEn⟩, by simp [intOf]; omega⟩
      · have HES := Lib.hid (hE.out.ok (by rw [hL.out]; omega))
        have HMM := Lib.hid (HMO.out C es HCO.out HES.out)
        obtain ⟨_, _, ev, rE⟩ := hO.out.row_n fxOk (show fs.length = j by rw [hDP.out.1, hL.out])
        cases ev
        have HRE := Lib.hid rE
        clear rE
        go_wp2_with (refine wpList_rec rfl rfl P6 zeroMs #[.int .i64 2, .int .i64 N0, .int .i64 v1, .int .i64 v2, .int .i64 0, .int .i64 0, .slice a6 nc c6, .slice ae j ce, .slice none 0 0, .slice none 0 0] rfl rfl hX6.out rfl (by kernel_rfl) (by kernel_rfl) ?_; intro w8 r1 r2 r3 r4)
        refine bodyPost_ret (results_c rfl rfl r1 Try.underlying27 rfl (by kernel_rfl)) rfl ?_
        exact ⟨⟨2, N0, v1, v2, 0, 0, C, es, [], []⟩, ⟨a6, nc, c6, ae, j, ce, none, 0, 0, none, 0, 0⟩, rfl, HMM.out, ⟨hTR.out.only r3 (fun x hx => (HA6.out x hx).2.2), (hDP.out.later (hB.out.grown r4 hB.out.size (fun k e => by cases e; exact Nat.le_of_eq HP6.out))).erow (HRE.out.only r3 (fun x hx => by cases hx; have := hF.out x.block rfl; have := HB8.out; have := HP83.out; omega)), GRow.nil _ _, Row.empty _ _ _ (Nat.zero_le _) (fun _ => rfl), HNC.out, hL.out, rfl, rfl⟩, hB.out.grown r4 hB.out.size (fun k e => by cases e; exact Nat.le_of_eq HP6.out)⟩
    · have HES := Lib.hid (hE.out.ok (by rw [hL.out]; omega))
      have HMM := Lib.hid (HMO.out C es HCO.out HES.out)
      obtain ⟨_, _, ev, rE⟩ := hO.out.row_n fxOk (show fs.length = j by rw [hDP.out.1, hL.out])
      cases ev
      have HRE := Lib.hid rE
      clear rE
      have : j = V3 := by omega
      subst this
      go_wp2_with (refine wpList_rec rfl rfl P6 zeroMs #[.int .i64 2, .int .i64 N0, .int .i64 v1, .int .i64 v2, .int .i64 0, .int .i64 0, .slice a6 nc c6, .slice ae j ce, .slice none 0 0, .slice none 0 0] rfl rfl hX6.out rfl (by kernel_rfl) (by kernel_rfl) ?_; intro w8 r1 r2 r3 r4)
      refine bodyPost_ret (results_c rfl rfl r1 Try.underlying27 rfl (by kernel_rfl)) rfl ?_
      exact ⟨⟨2, N0, v1, v2, 0, 0, C, es, [], []⟩, ⟨a6, nc, c6, ae, j, ce, none, 0, 0, none, 0, 0⟩, rfl, HMM.out, ⟨hTR.out.only r3 (fun x hx => (HA6.out x hx).2.2), (hDP.out.later (hB.out.grown r4 hB.out.size (fun k e => by cases e; exact Nat.le_of_eq HP6.out))).erow (HRE.out.only r3 (fun x hx => by cases hx; have := hF.out x.block rfl; have := HB8.out; have := HP83.out; omega)), GRow.nil _ _, Row.empty _ _ _ (Nat.zero_le _) (fun _ => rfl), HNC.out, hL.out, rfl, rfl⟩, hB.out.grown r4 hB.out.size (fun k e => by cases e; exact Nat.le_of_eq HP6.out)⟩
theorem makeMs_any (kd : Int) (ad : Option Addr) (n c : Nat) (zs : List Int) (ap : Option Addr) (np cp : Nat) (pl : List UInt8) (w : World) (hr : ZRow w ad c zs) (hn : zs.length = n) (hn2 : n ≤ 1000) (hp : Row w ap cp pl) (hpl : pl.length = np) :
    Calls Try.prog 18 #[.int .i64 kd, .slice ad n c, .slice ap np cp] w (MadeP w) := by
  obtain ⟨q, hq, hq0, hq1⟩ := and_lo kd 255 (by decide)
  have hq : bits .and .i64 kd 255 = q := hq
  rcases (show q % 9 = 0 ∨ q % 9 = 1 ∨ q % 9 = 2 ∨ q % 9 = 3 ∨ q % 9 = 4 ∨ q % 9 = 5 ∨ q % 9 = 6 ∨ q % 9 = 7 ∨ q % 9 = 8 by omega) with h | h | h | h | h | h | h | h | h
  · exact makeMs_1 kd ad n c zs ap np cp pl w hr hn hn2 hp hpl (by rw [hq, h]; rfl)
  · exact makeMs_2 kd ad n c zs ap np cp pl w hr hn hn2 hp hpl (by rw [hq, h]; rfl)
  · exact makeMs_0 kd 3 ad n c zs ap np cp pl w hr hn hn2 hp hpl (by omega) (by rw [hq, h]; rfl)
  · exact makeMs_4 kd ad n c zs ap np cp pl w hr hn hn2 hp hpl (by rw [hq, h]; rfl)
  · exact makeMs_5 kd ad n c zs ap np cp pl w hr hn hn2 hp hpl (by rw [hq, h]; rfl)
  · exact makeMs_6 kd ad n c zs ap np cp pl w hr hn hn2 hp hpl (by rw [hq, h]; rfl)
  · exact makeMs_0 kd 7 ad n c zs ap np cp pl w hr hn hn2 hp hpl (by omega) (by rw [hq, h]; rfl)
  · exact makeMs_0 kd 8 ad n c zs ap np cp pl w hr hn hn2 hp hpl (by omega) (by rw [hq, h]; rfl)
  · exact makeMs_9 kd ad n c zs ap np cp pl w hr hn hn2 hp hpl (by rw [hq, h]; rfl)
end Go.Proofs.Ytiahifpbofkimaa
