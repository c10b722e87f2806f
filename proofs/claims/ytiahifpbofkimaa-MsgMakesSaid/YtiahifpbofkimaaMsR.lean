/- Messages: what bytes are: the document's rest, entries. Printed by gen_msq.py. -/
import Derived.Test.YtiahifpbofkimaaMsQ
import Derived.Deep.RegionHeld3
namespace Go.Proofs.Ytiahifpbofkimaa
open Go.RowKit Go.Proofs
set_option linter.unusedVariables false
set_option linter.unusedSimpArgs false
set_option linter.unnecessarySimpa false

theorem own_of_rec {W0 w : World} {g : Nat} (h : RecAt w g #[] 44) (hg : W0.heap.size ≤ g) (hb : Below W0.heap.size W0 w) : GOwn fxT W0 w (.slice (some ⟨g, 0, none⟩) 0 0) [] :=
  ⟨⟨rfl, .inr ⟨g, 0, _, rfl, hg, h, Nat.le_refl _, by simp [maxLen], rfl, rfl⟩⟩, hb, fun t h => by cases h⟩
theorem grow_of_rec {α : Type} {R : RT α} (hR : R.Ok) {w : World} {x : Nat} {cs : Array Value} {E : TypeId} (hrec : RecAt w x cs E) {t : α} (ht : R.B t) (hc : cs.toList = R.V t) : GRow R w (some ⟨x, 0, none⟩) 1 [t] := by
  refine ⟨by simp, by simp [maxLen], fun e => (by cases e), fun s hs => (by simp at hs; subst hs; exact ht), fun y hy i s hs => ?_⟩
  cases hy
  match i, hs with
  | 0, hs =>
    simp at hs; subst hs
    refine ⟨rfl, fun k v hv => ?_⟩
    rw [← hc] at hv
    have := hrec.cell (i := k) (v := v) (by simpa using hv)
    simpa using this
/-- What operations of the region leave: a row of records, a new one that has none, a record in a block of its own. -/
def gV (W0 : World) (fs : List Fx) : SV := ⟨fun w v => GOwn fxT W0 w v fs, fun w w' v h hb => h.later hb⟩
def eV (W0 : World) : SV := ⟨fun w v => ∃ g, v = .slice (some ⟨g, 0, none⟩) 0 0 ∧ RecAt w g #[] 44 ∧ W0.heap.size ≤ g, fun w w' v ⟨g, h1, h2, h3⟩ hb => ⟨g, h1, h2.later hb, h3⟩⟩
def rcV (W0 : World) (cs : Array Value) : SV := ⟨fun w v => ∃ g, v = .slice (some ⟨g, 0, none⟩) 1 1 ∧ RecAt w g cs 44 ∧ W0.heap.size ≤ g, fun w w' v ⟨g, h1, h2, h3⟩ hb => ⟨g, h1, h2.later hb, h3⟩⟩
def jR (W : World) (P : Nat) (gs : List Fx) : Nat → World → Prop
  | 0, w => Below W.heap.size W w
  | 1, w => Below W.heap.size W w
  | 2, w => Below W.heap.size W w
  | _ + 3, w => ∃ w6 v, GOwn fxT W w6 v gs ∧ Below (w6.setCell ⟨P, 7, none⟩ v).heap.size (w6.setCell ⟨P, 7, none⟩ v) w
theorem jR_st (W : World) (P : Nat) (gs : List Fx) : ∀ ph w w', jR W P gs ph w → Below w.heap.size w w' → jR W P gs ph w'
  | 0, w, w', h, hb => Below.trans (h : Below W.heap.size W w) (hb.mono (Below.size h))
  | 1, w, w', h, hb => Below.trans (h : Below W.heap.size W w) (hb.mono (Below.size h))
  | 2, w, w', h, hb => Below.trans (h : Below W.heap.size W w) (hb.mono (Below.size h))
  | _ + 3, w, w', ⟨w6, v, h1, h2⟩, hb => ⟨w6, v, h1, h2.trans (hb.mono h2.size)⟩
/-- Marks that stay over one heavy operation, from this world to that. -/
def Calm5 (w1 w2 : World) (i : Nat) : Nat → List SV → List SV → Prop
  | _, [], _ => True
  | n, s :: r, s' :: r' => (n = i ∨ ∀ v, s.p w1 v → s'.p w2 v) ∧ Calm5 w1 w2 i (n + 1) r r'
  | _, _ :: _, [] => False
theorem Calm5.all' {w1 w2 : World} {i : Nat} : ∀ {L L' : List SV} {n : Nat}, Calm5 w1 w2 i n L L' → ∀ k v0, n + k ≠ i → VL L k w1 v0 → VL L' k w2 v0
  | [], _, _, _, k, v0, _, h => by simp [VL] at h
  | s :: r, [], _, hc, _, _, _, _ => hc.elim
  | s :: r, s' :: r', n, hc, 0, v0, hne, h => by
    rcases hc.1 with h1 | h1
    · exact absurd h1 hne
    · exact h1 v0 h
  | s :: r, s' :: r', n, hc, k + 1, v0, hne, h => by
    have := Calm5.all' hc.2 k v0 (by omega) (by simpa [VL] using h)
    simpa [VL] using this
theorem Calm5.all {w1 w2 : World} {i n : Nat} {L L' : List SV} (h : Calm5 w1 w2 i n L L') (hn : n = 0 := by rfl) : ∀ k v0, k ≠ i → VL L k w1 v0 → VL L' k w2 v0 := fun k v0 hk hv => by
  subst hn
  exact Calm5.all' h k v0 (by omega) hv
theorem hv_gapp {α : Type} {R : RT α} (hR : R.Ok) {ops : Array Oper} {Q : Exit → Act → World → Prop} {L L' : List SV} {J' : World → Prop} {i : Nat} {a : Act} {w : World} {o : Oper} (hi : ops[i]? = some o) (hg : o.guard = none) (s x : Operand) {S : TypeId}
    (ho : o.op = .call { callee := .builtin .append, args := #[s, x], argTypes := #[S, S] }) (hS : S = R.S)
    (v : Value) (ts : List α) (hs : a.eval s = v) (W0 : World) (hown : GOwn R W0 w v ts) (ad : Option Addr) (cap n : Nat) (us : List α) (hr : GRow R w ad cap us) (hn : us.length = n) (hx : a.eval x = .slice ad n cap) (hlen : ts.length + us.length ≤ 1000000)
    (h : ∀ v' w', GOwn R W0 w' v' (ts ++ us) → w.grownBy w' v.ownBlock → VL L' i w' v' ∧ J' w' ∧ ∀ k v0, k ≠ i → VL L k w v0 → VL L' k w' v0) : HvGoal Try.prog ops Q L L' J' i a w := by
  subst hS
  obtain ⟨v', w', h1, h2, h3, _⟩ := run_gapp hR v ts W0 hown ad cap n us hr hn o.type hlen
  obtain ⟨g1, g2, g3⟩ := h v' w' h2 h3
  refine hv_run (v := v') (w' := w') hi hg ?_ g1 g2 g3
  unfold execOp
  simp only [ho, resolve, invoke, builtin, Sem.run_bind, Sem.run_pure, Result.andThen_ok, List.map_toArray, List.map_cons, List.map_nil, hs, hx, h1]
theorem take_step2 {l : List UInt8} {a : Nat} (ha : a ≤ l.length) : ∃ (e1 : En) (a1 : Nat) (k1 : Int), takeA l ((a : Nat) : Int) = (e1, ((a1 : Nat) : Int), k1) ∧ a1 ≤ l.length ∧ ∀ t x, t.right = true → l.drop a = layL t ++ x → e1 = t ∧ a1 = a + (layL t).length ∧ k1 = 0 := by
  rcases takeM_two (l.drop a) with ⟨c, h1, hc⟩ | ⟨e, h1, h2, h3⟩
  · refine ⟨noE, 0, c, takeA_err ha h1 hc, Nat.zero_le _, fun t x ht hl => ?_⟩
    rw [hl, take_lay ht x] at h1
    simp only [Prod.mk.injEq] at h1
    exact absurd h1.2.2.symm hc
  · refine ⟨e, a + (e.data.length + 22), 0, takeA_ok ha h1, by rw [List.length_drop] at h3; omega, fun t x ht hl => ?_⟩
    rw [hl, take_lay ht x] at h1
    simp only [Prod.mk.injEq] at h1
    obtain ⟨rfl, _, _⟩ := h1
    exact ⟨rfl, by rw [layL_len], rfl⟩
set_option maxRecDepth 100000 in
set_option maxHeartbeats 12800000 in
theorem rest_2 (ad : Option Addr) (m c : Nat) (l : List UInt8) (p : Nat) (k n o f s u : Int) (w : World) (hr : Row w ad c l) (hm : l.length = m) (hlen : m ≤ 100000) (hp : p ≤ m) (h1m : 0 < m) (hk2 : k = 2) :
    Calls Try.prog 35 #[.agg #[.int .i64 k, .int .i64 n, .int .i64 o, .int .i64 f, .int .i64 s, .int .i64 u, .slice none 0 0, .slice none 0 0, .slice none 0 0, .slice none 0 0], .slice ad m c, .int .i64 (p : Nat)] w (RestP l p k n o f s u w) := by
  have HR := Lib.hid hr
  have HM := Lib.hid hm
  have hcm : c ≤ 9223372036854775807 := by have := hr.2.1; unfold maxLen at this; omega
  obtain ⟨X3, X6, B1⟩ := two_recsM w #[.int .i64 k, .int .i64 n, .int .i64 o, .int .i64 f, .int .i64 s, .int .i64 u, .slice none 0 0, .slice none 0 0, .slice none 0 0, .slice none 0 0] zeroMs 27 27
  have HX3 := Lib.hid X3
  have HX6 := Lib.hid X6
  have HB1 := Lib.hid B1
  clear hr hm X3 X6 B1
  have tk2 : (k == 2) = true := by simp [hk2]
  have tk4 : (k == 4) = false := by simp [hk2]
  have HKX := Lib.hid hk2
  clear hk2
  obtain ⟨Q, hQ⟩ : ∃ Q, RestP l p k n o f s u w = Q := ⟨_, rfl⟩
  rw [hQ]
  have HQN : Hid (∀ g q w', Below w.heap.size w w' → MsRows w' g q → MsNo w' q → (∀ d, MsOk d → d.kind = k → d.nonce = n → d.pos = o → d.fin = f → d.stage = s → d.num = u → l.drop p = tailM d → False) → Q (.returned (.tuple #[msV g q, .bool false])) w') :=
    Lib.hid (fun g q w' hb hr1 hr2 hv => by rw [← hQ]; exact ⟨g, q, false, rfl, hb, hr1, hr2, fun d h1 h2 h3 h4 h5 h6 h7 h8 => (hv d h1 h2 h3 h4 h5 h6 h7 h8).elim⟩)
  have HQY : Hid (∀ g q w', Below w.heap.size w w' → MsRows w' g q → MsNo w' q → (∀ d, MsOk d → d.kind = k → d.nonce = n → d.pos = o → d.fin = f → d.stage = s → d.num = u → l.drop p = tailM d → g = d) → Q (.returned (.tuple #[msV g q, .bool true])) w') :=
    Lib.hid (fun g q w' hb h1 h2 hv => by rw [← hQ]; exact ⟨g, q, true, rfl, hb, h1, h2, fun d h1 h2 h3 h4 h5 h6 h7 h8 => ⟨rfl, hv d h1 h2 h3 h4 h5 h6 h7 h8⟩⟩)
  clear hQ
  go_enter Try.func35, Try.ntmps35
  go_upto_region 1 with fail
  simp only [zeroMs] at HX3 HX6 HB1
  generalize ((w.alloc (.cells #[.int .i64 k, .int .i64 n, .int .i64 o, .int .i64 f, .int .i64 s, .int .i64 u, .slice none 0 0, .slice none 0 0, .slice none 0 0, .slice none 0 0] 27)).alloc (.cells #[.int .i64 0, .int .i64 0, .int .i64 0, .int .i64 0, .int .i64 0, .int .i64 0, .slice none 0 0, .slice none 0 0, .slice none 0 0, .slice none 0 0] 27)) = w1 at *
  obtain ⟨P6, hP6⟩ : ∃ P, w.heap.size + 1 = P := ⟨_, rfl⟩
  have HP6 := Lib.hid hP6
  rw [hP6] at HX6 ⊢
  clear hP6
  obtain ⟨P3, hP3⟩ : ∃ P, w.heap.size = P := ⟨_, rfl⟩
  have HP3 := Lib.hid hP3
  rw [hP3]
  rw [hP3] at HX3
  clear hP3
  obtain ⟨y0, y1, y2, y3, y4, y5, y6, y7, y8, y9⟩ := HX3.out.c10
  have HTD : Hid (∀ d, MsOk d → d.kind = k → tailM d = textL (putC d.chain) ++ entsL d.ents ∧ ChOk d.chain) := Lib.hid (fun d hd h1 => by
    have ek : d.kind = 2 := by rw [h1]; exact HKX.out
    exact ⟨tailM_2 ek, (hd.2.2.1 ek).1⟩)
  obtain ⟨S, qe, zt, hgt, hqe, hss, hgs⟩ := gotT_any l ((p : Nat) : Int) (m : Int) (by have := HM.out; omega)
  have HGT := Lib.hid (rgettext_any ad m c l ((p : Nat) : Int) (m : Int) w1 (HR.out.later HB1.out) HM.out hlen (by omega) (by omega))
  rw [hgt] at HGT
  have HTX : Hid (∀ d x, ChOk d → l.drop p = textL (putC d) ++ x → S.data.toList = putC d ∧ qe = p + (textL (putC d)).length ∧ zt = true) := Lib.hid (fun d x hd hl => hgs _ _ (gtA_put (by have := HM.out; omega) hl (by
      have := congrArg List.length hl
      have := HM.out
      unfold textL at this
      unfold textL at hl
      have h9 := congrArg List.length hl
      simp only [List.length_append, List.length_drop] at h9
      omega) (by have := HM.out; omega)))
  have HQE : Hid (qe ≤ l.length) := Lib.hid hqe
  clear hgt hqe hgs
  cases zt with
  | false =>
    have HV : Hid (∀ d, MsOk d → d.kind = k → d.nonce = n → d.pos = o → d.fin = f → d.stage = s → d.num = u → l.drop p = tailM d → False) := Lib.hid (fun d hd h1 _ _ _ _ _ h7 => by
      obtain ⟨t1, t2⟩ := HTD.out d hd h1
      rw [t1] at h7
      have := (HTX.out _ _ t2 h7).2.2
      cases this)
    go_wp2_with (first
      | (go_at_call 73; refine HGT.out.mono ?_; rintro e w2 ⟨rfl, rfl⟩)
      | (refine wpList_rec rfl rfl P6 zeroMs #[.int .i64 k, .int .i64 n, .int .i64 o, .int .i64 f, .int .i64 s, .int .i64 u, .slice none 0 0, .slice none 0 0, .slice none 0 0, .slice none 0 0] rfl rfl HX6.out rfl (by kernel_rfl) (by kernel_rfl) ?_; intro w9 r1 r2 r3 r4))
    refine bodyPost_ret (results_ct rfl rfl r1 Try.underlying27 rfl (by kernel_rfl)) rfl ?_
    exact HQN.out ⟨k, n, o, f, s, u, [], [], [], []⟩ ⟨none, 0, 0, none, 0, 0, none, 0, 0, none, 0, 0⟩ _ (HB1.out.grown r4 HB1.out.size (fun q e => by cases e; have := HP6.out; omega)) (MsRows.nil _ ⟨k, n, o, f, s, u, [], [], [], []⟩ rfl rfl rfl rfl) ⟨NMs.none _, NMs.none _, NMs.none _⟩ HV.out
  | true =>
  have HBT := Lib.hid (text_below w1 5 S)
  have hcv := conv_text w1 S
  have HGC := Lib.hid (chrget_any _ S.size _ _ _ (text_row w1 5 S (by unfold maxLen; omega)) (Lib.size_eq S).symm (by omega))
  have HX32 := Lib.hid (HX3.out.later HBT.out)
  have HX62 := Lib.hid (HX6.out.later HBT.out)
  have HB2 := Lib.hid (HB1.out.trans (HBT.out.mono HB1.out.size))
  obtain ⟨w2, hw2⟩ : ∃ W, Lib.bytesWorld w1 5 S = W := ⟨_, rfl⟩
  rw [hw2] at hcv HGC HX32 HX62 HB2
  clear HBT hw2 hss
  rcases getCh_two S.data.toList with ⟨tc, hg0, hok0, hput0⟩ | ⟨hg0, hno0⟩
  case inr =>
    have HV : Hid (∀ d, MsOk d → d.kind = k → d.nonce = n → d.pos = o → d.fin = f → d.stage = s → d.num = u → l.drop p = tailM d → False) := Lib.hid (fun d hd h1 _ _ _ _ _ h7 => by
      obtain ⟨t1, t2⟩ := HTD.out d hd h1
      rw [t1] at h7
      exact hno0 _ t2 (HTX.out _ _ t2 h7).1.symm)
    unfold CGot at HGC
    rw [hg0] at HGC
    clear hg0 hno0
    go_wp2_with (first
      | (go_at_call 73; refine HGT.out.mono ?_; rintro e w5 ⟨rfl, rfl⟩)
      | (go_at_call 74; refine HGC.out.mono ?_; rintro e w5 ⟨v5, rfl, o5⟩; have HX65 := Lib.hid (HX62.out.later o5.below); have HB5 := Lib.hid (HB2.out.trans (o5.below.mono HB2.out.size)); have HX35 := Lib.hid (HX32.out.later o5.below); clear o5 y0 y1 y2 y3 y4 y5 y6 y7 y8 y9; obtain ⟨y0, y1, y2, y3, y4, y5, y6, y7, y8, y9⟩ := HX35.out.c10)
      | (refine wpList_rec rfl rfl P6 zeroMs #[.int .i64 k, .int .i64 n, .int .i64 o, .int .i64 f, .int .i64 s, .int .i64 u, .slice none 0 0, .slice none 0 0, .slice none 0 0, .slice none 0 0] rfl rfl HX65.out rfl (by kernel_rfl) (by kernel_rfl) ?_; intro w9 r1 r2 r3 r4))
    refine bodyPost_ret (results_ct rfl rfl r1 Try.underlying27 rfl (by kernel_rfl)) rfl ?_
    exact HQN.out ⟨k, n, o, f, s, u, [], [], [], []⟩ ⟨none, 0, 0, none, 0, 0, none, 0, 0, none, 0, 0⟩ _ (HB5.out.grown r4 HB5.out.size (fun q e => by cases e; have := HP6.out; omega)) (MsRows.nil _ ⟨k, n, o, f, s, u, [], [], [], []⟩ rfl rfl rfl rfl) ⟨NMs.none _, NMs.none _, NMs.none _⟩ HV.out
  case inl =>
  have HTC : Hid (∀ d x, ChOk d → l.drop p = textL (putC d) ++ x → tc = d ∧ qe = p + (textL (putC d)).length) := Lib.hid (fun d x hd hl => by
    obtain ⟨h1, h2, _⟩ := HTX.out d x hd hl
    rw [h1, getCh_some hd rfl] at hg0
    exact ⟨(Prod.mk.inj hg0).1.symm, h2⟩)
  unfold CGot at HGC
  rw [hg0] at HGC
  obtain ⟨mc, hmc⟩ : ∃ M, tc.length = M := ⟨_, rfl⟩
  have HMC := Lib.hid hmc
  clear hg0 hok0 hput0 hmc HTX
  go_upto_region 9 with (first
    | (go_at_call 73; refine HGT.out.mono ?_; rintro e w5 ⟨rfl, rfl⟩)
    | (go_at_call 74; refine HGC.out.mono ?_; rintro e w5 ⟨v5, rfl, o5⟩; have HX65 := Lib.hid (HX62.out.later o5.below); have HB5 := Lib.hid (HB2.out.trans (o5.below.mono HB2.out.size)); have HX35 := Lib.hid (HX32.out.later o5.below); obtain ⟨a5, c5, rfl, r5, f5⟩ := o5.row_far HMC.out; have HN5 := Lib.hid o5.nms; have HR5 := Lib.hid r5; have HF5 := Lib.hid f5; have HS2 : Hid (P6 < w2.heap.size) := Lib.hid HX62.out.lt; clear o5 r5 f5 y0 y1 y2 y3 y4 y5 y6 y7 y8 y9; obtain ⟨y0, y1, y2, y3, y4, y5, y6, y7, y8, y9⟩ := HX35.out.c10; obtain ⟨f6, f7, f8, f9⟩ := HX35.out.f10))
  have HX36 := Lib.hid (HX35.out.set 6 (.slice a5 mc c5))
  have HX66 := Lib.hid (HX65.out.other (y := P3) (by have := HP3.out; have := HP6.out; omega) 6 (.slice a5 mc c5))
  have HB6 := Lib.hid (HB5.out.setCell (p := ⟨P3, 6, none⟩) (by have := HP3.out; simp only; omega) (.slice a5 mc c5))
  have HR6 := Lib.hid (HR5.out.only (OnlyP.set w5 P3 6 (.slice a5 mc c5)) (fun x hx => by have h1 := HF5.out x hx; have h2 := HS2.out; have := HP3.out; have := HP6.out; omega))
  have HN6 := Lib.hid (HN5.out.only (OnlyP.set w5 P3 6 (.slice a5 mc c5)) HX35.out)
  have HF6 : Hid (∀ x, a5 = some x → w.heap.size + 2 ≤ x.block) := Lib.hid (fun x hx => by have h1 := HF5.out x hx; have h2 := HS2.out; have := HP6.out; omega)
  clear y0 y1 y2 y3 y4 y5 y6 y7 y8 y9 f6 f7 f8 f9 HX35 HX65 HB5 HR5 HF5 HX32 HX62 HB2 HX3 HX6 HGC HGT hcv
  generalize (w5.setCell ⟨P3, 6, none⟩ (.slice a5 mc c5)) = w6 at *
  simp only [List.setIfInBounds_toArray, List.set_cons_zero, List.set_cons_succ] at HX36
  obtain ⟨y0, y1, y2, y3, y4, y5, y6, y7, y8, y9⟩ := HX36.out.c10
  obtain ⟨oN, qN, zN, hg⟩ : ∃ o q z, getVA l ((qe : Nat) : Int) = (o, q, z) := ⟨_, _, _, rfl⟩
  obtain ⟨a0, rfl, ha0⟩ := getVA_place hg (Int.natCast_nonneg _)
  have HGV := Lib.hid (rgetvar_any ad m c l ((qe : Nat) : Int) w6 (HR.out.later HB6.out) HM.out hlen (by omega) (by have := HQE.out; have := HM.out; omega))
  rw [hg] at HGV
  simp only [Got3] at HGV
  obtain ⟨N, hN⟩ : ∃ N : Nat, oN = N := ⟨oN.toNat, by have := (getVA_nat hg).1; omega⟩
  subst hN
  have HF : Hid (∀ d, MsOk d → d.kind = k → l.drop p = tailM d → N = d.ents.length ∧ a0 = qe + endE d.ents 0 ∧ zN = true ∧ N ≤ 4 ∧ tc = d.chain ∧ l.drop qe = entsL d.ents ++ [] ∧ ∀ t ∈ d.ents, t.right = true) := Lib.hid (fun d hd h1 h7 => by
    obtain ⟨t1, t2⟩ := HTD.out d hd h1
    rw [t1] at h7
    obtain ⟨t3, t4⟩ := HTC.out _ _ t2 h7
    have e6 : l.drop qe = entsL d.ents ++ [] := by rw [t4, ← List.drop_drop, h7, List.drop_left, List.append_nil]
    have he2 := (hd.2.2.1 (by rw [h1]; exact HKX.out)).2
    obtain ⟨g1, g2, g3⟩ := first_ents HQE.out e6 he2.1 hg
    exact ⟨by omega, by omega, g3, by have := he2.1; omega, t3, e6, he2.rights⟩)
  have HA0 : Hid (a0 ≤ l.length) := Lib.hid ha0
  have hN64 := (getVA_nat hg).2
  clear hg ha0
  by_cases hbad : zN = false ∨ 4 < N
  · have HV : Hid (∀ d, MsOk d → d.kind = k → d.nonce = n → d.pos = o → d.fin = f → d.stage = s → d.num = u → l.drop p = tailM d → False) := Lib.hid (fun d hd h1 _ _ _ _ _ h7 => by
      obtain ⟨_, _, g3, g4, _⟩ := HF.out d hd h1 h7
      rcases hbad with h | h
      · rw [h] at g3; cases g3
      · omega)
    rcases (show zN = false ∨ (zN = true ∧ 4 < N) by cases zN <;> simp_all) with h | ⟨h, h4⟩
    · subst h
      clear hbad
      go_upto_region 13 with (go_at_call 72; refine HGV.out.mono ?_; rintro e w7 ⟨rfl, rfl⟩)
      go_wp2_with (refine wpList_rec rfl rfl P6 zeroMs #[.int .i64 k, .int .i64 n, .int .i64 o, .int .i64 f, .int .i64 s, .int .i64 u, .slice a5 mc c5, .slice none 0 0, .slice none 0 0, .slice none 0 0] rfl rfl HX66.out rfl (by kernel_rfl) (by kernel_rfl) ?_; intro w9 r1 r2 r3 r4)
      refine bodyPost_ret (results_ct rfl rfl r1 Try.underlying27 rfl (by kernel_rfl)) rfl ?_
      exact HQN.out ⟨k, n, o, f, s, u, tc, [], [], []⟩ ⟨a5, mc, c5, none, 0, 0, none, 0, 0, none, 0, 0⟩ _ (HB6.out.grown r4 HB6.out.size (fun q e => by cases e; have := HP6.out; omega)) (MsRows.onlyN ⟨HR6.out, ERow.nil _, GRow.nil _ _, Row.empty _ _ _ (Nat.zero_le _) (fun _ => rfl), HMC.out, rfl, rfl, rfl⟩ ⟨HN6.out, NMs.none _, NMs.none _⟩ r3 HX66.out (noB8_ms _ _ _ _ _ _ _ _ _ _ _ _ _ _ _ _ _ _)) (MsNo.only ⟨HN6.out, NMs.none _, NMs.none _⟩ r3 HX66.out) HV.out
    · subst h
      have hd4 : decide (4 < (N : Int)) = true := by simp; omega
      clear hbad h4
      go_upto_region 13 with (go_at_call 72; refine HGV.out.mono ?_; rintro e w7 ⟨rfl, rfl⟩)
      go_wp2_with (refine wpList_rec rfl rfl P6 zeroMs #[.int .i64 k, .int .i64 n, .int .i64 o, .int .i64 f, .int .i64 s, .int .i64 u, .slice a5 mc c5, .slice none 0 0, .slice none 0 0, .slice none 0 0] rfl rfl HX66.out rfl (by kernel_rfl) (by kernel_rfl) ?_; intro w9 r1 r2 r3 r4)
      refine bodyPost_ret (results_ct rfl rfl r1 Try.underlying27 rfl (by kernel_rfl)) rfl ?_
      exact HQN.out ⟨k, n, o, f, s, u, tc, [], [], []⟩ ⟨a5, mc, c5, none, 0, 0, none, 0, 0, none, 0, 0⟩ _ (HB6.out.grown r4 HB6.out.size (fun q e => by cases e; have := HP6.out; omega)) (MsRows.onlyN ⟨HR6.out, ERow.nil _, GRow.nil _ _, Row.empty _ _ _ (Nat.zero_le _) (fun _ => rfl), HMC.out, rfl, rfl, rfl⟩ ⟨HN6.out, NMs.none _, NMs.none _⟩ r3 HX66.out (noB8_ms _ _ _ _ _ _ _ _ _ _ _ _ _ _ _ _ _ _)) (MsNo.only ⟨HN6.out, NMs.none _, NMs.none _⟩ r3 HX66.out) HV.out
  obtain rfl : zN = true := by cases zN <;> simp_all
  have hN4 : N ≤ 4 := by omega
  have hd4 : decide (4 < (N : Int)) = false := by simp; omega
  clear hbad
  go_wp2_with (go_at_call 72; refine HGV.out.mono ?_; rintro e w7 ⟨rfl, rfl⟩)
  clear y0 y1 y2 y3 y4 y5 y6 y7 y8 y9 hd4 HGV
  go_loopw [2, 16, 17, 18, 19] (fun at' i _ _ _ wr => ∃ (j a : Nat) (es : List En) (fs : List Fx) (ap : Option Addr) (cp : Nat), i = .int .i64 (j : Nat) ∧ at' = .int .i64 (a : Nat) ∧ j ≤ N ∧ Hid (a ≤ l.length) ∧ Hid (es.length = j) ∧ Hid (RecAt wr P3 #[.int .i64 k, .int .i64 n, .int .i64 o, .int .i64 f, .int .i64 s, .int .i64 u, .slice a5 mc c5, .slice ap j cp, .slice none 0 0, .slice none 0 0] 27) ∧ Hid (RecAt wr P6 zeroMs 27) ∧ Hid (Below w.heap.size w wr) ∧ Hid (TRow wr a5 c5 tc) ∧ Hid (GRow fxT wr ap cp fs) ∧ Hid (Deep wr fs es) ∧ Hid (∀ x, ap = some x → w.heap.size + 2 ≤ x.block) ∧ Hid (MsNo wr ⟨a5, mc, c5, ap, j, cp, none, 0, 0, none, 0, 0⟩) ∧ Hid (∀ d, MsOk d → d.kind = k → l.drop p = tailM d → es = d.ents.take j ∧ a = qe + endE d.ents j)) (fun _ i _ _ _ _ => N - (intOf i).toNat)
  case atStart => exact ⟨0, a0, [], [], none, 0, rfl, rfl, by omega, HA0, Lib.hid rfl, HX36, HX66, HB6, HR6, Lib.hid (GRow.nil _ _), Lib.hid ⟨rfl, fun i f e hf => by simp at hf⟩, Lib.hid (fun x h => by cases h), Lib.hid ⟨HN6.out, NMs.none _, NMs.none _⟩, Lib.hid (fun d hd h1 h7 => ⟨rfl, (HF.out d hd h1 h7).2.1⟩)⟩
  case round =>
    obtain ⟨j, a, es, fs, ap, cp, rfl, rfl, hj, hA, hL, hX3, hX6, hB, hTR, hGR, hDP, hFA, hNO, hU⟩ := hrel
    obtain ⟨y0, y1, y2, y3, y4, y5, y6, y7, y8, y9⟩ := hX3.out.c10
    by_cases hjN : (j : Int) < N
    · obtain ⟨e1, a1, k1, hT, ha1, hT2⟩ := take_step2 hA.out
      have HK2 := Lib.hid (rtake_any ad m c l ((a : Nat) : Int) wr (HR.out.later hB.out) HM.out hlen (by omega) (by have := hA.out; have := HM.out; omega))
      rw [hT] at HK2
      have HA1 : Hid (a1 ≤ l.length) := Lib.hid ha1
      have HU2 : Hid (∀ d, MsOk d → d.kind = k → l.drop p = tailM d → es ++ [e1] = d.ents.take (j + 1) ∧ a1 = qe + endE d.ents (j + 1) ∧ k1 = 0) := Lib.hid (fun d hd h1 h7 => by
        obtain ⟨u1, u2⟩ := hU.out d hd h1 h7
        obtain ⟨g1, g2, _, _, _, e6, hrt⟩ := HF.out d hd h1 h7
        have hjd : j < d.ents.length := by omega
        have ht : d.ents[j]? = some d.ents[j] := List.getElem?_eq_getElem hjd
        have e2 : l.drop a = layL d.ents[j] ++ (rowL (d.ents.drop (j + 1)) ++ []) := by
          rw [u2, endE_drop e6 j, List.drop_eq_getElem_cons hjd]
          unfold rowL
          rw [List.flatMap_cons, List.append_assoc]
        obtain ⟨v1, v2, v3⟩ := hT2 _ _ (hrt _ (List.getElem_mem hjd)) e2
        refine ⟨?_, by rw [v2, endE_succ ht, u2]; omega, v3⟩
        rw [List.take_succ_eq_append_getElem hjd, u1, v1])
      clear hT hT2 ha1
      obtain ⟨T', Z, D⟩ := e1
      obtain ⟨L, hLL⟩ : ∃ L, D.length = L := ⟨_, rfl⟩
      have HLL := Lib.hid hLL
      clear hLL
      obtain ⟨wo, hwo⟩ : ∃ W, W = wr := ⟨_, rfl⟩
      subst hwo
      go_upto_region 19 with (go_at_call 75; refine HK2.out.mono ?_; rintro e w3 ⟨d1, c1, rfl, R3, hb3, hx3⟩; unfold entV; simp only [HLL.out]; have HR3 := Lib.hid R3; have HB3 := Lib.hid hb3; clear R3 hb3 hx3)
      have HXE := Lib.hid (RecAt.new w3 #[.int .i64 T', .int .i64 Z, .slice d1 L c1] 44)
      have HB34 := Lib.hid (HB3.out.trans (((Below.refl w3.heap.size w3).alloc (Nat.le_refl _) (.cells #[.int .i64 T', .int .i64 Z, .slice d1 L c1] 44)).mono HB3.out.size))
      have HR4 := Lib.hid (HR3.out.later ((Below.refl w3.heap.size w3).alloc (Nat.le_refl _) (.cells #[.int .i64 T', .int .i64 Z, .slice d1 L c1] 44)))
      generalize (w3.alloc (.cells #[.int .i64 T', .int .i64 Z, .slice d1 L c1] 44)) = w4 at *
      obtain ⟨PE, hPE⟩ : ∃ P, w3.heap.size = P := ⟨_, rfl⟩
      rw [hPE]
      rw [hPE] at HXE
      clear hPE HR3 HB3 HK2
      have HX34 := Lib.hid (hX3.out.later HB34.out)
      have HX64 := Lib.hid (hX6.out.later HB34.out)
      have HB4 := Lib.hid (hB.out.trans (HB34.out.mono hB.out.size))
      have HTR4 := Lib.hid (hTR.out.later HB34.out)
      have HGR4 := Lib.hid (hGR.out.later HB34.out)
      have HDP4 := Lib.hid (hDP.out.later HB34.out)
      have HNO4 := Lib.hid (hNO.out.later HB34.out)
      clear hX3 hX6 hB hTR hGR hDP hNO y0 y1 y2 y3 y4 y5 y6 y7 y8 y9
      obtain ⟨y0, y1, y2, y3, y4, y5, y6, y7, y8, y9⟩ := HX34.out.c10
      obtain ⟨x0, x1, x2⟩ := HXE.out.c3
      cases hk1 : (k1 != 0) with
      | true =>
        have HV : Hid (∀ d, MsOk d → d.kind = k → d.nonce = n → d.pos = o → d.fin = f → d.stage = s → d.num = u → l.drop p = tailM d → False) := Lib.hid (fun d hd h1 _ _ _ _ _ h7 => by
          have := (HU2.out d hd h1 h7).2.2
          rw [this] at hk1
          cases hk1)
        go_wp2_with (refine wpList_rec rfl rfl P6 zeroMs #[.int .i64 k, .int .i64 n, .int .i64 o, .int .i64 f, .int .i64 s, .int .i64 u, .slice a5 mc c5, .slice ap j cp, .slice none 0 0, .slice none 0 0] rfl rfl HX64.out rfl (by kernel_rfl) (by kernel_rfl) ?_; intro w9 r1 r2 r3 r4)
        refine bodyPost_ret (results_ct rfl rfl r1 Try.underlying27 rfl (by kernel_rfl)) rfl ?_
        exact HQN.out ⟨k, n, o, f, s, u, tc, es, [], []⟩ ⟨a5, mc, c5, ap, j, cp, none, 0, 0, none, 0, 0⟩ _ (HB4.out.grown r4 HB4.out.size (fun q e => by cases e; have := HP6.out; omega)) (MsRows.onlyN ⟨HTR4.out, HDP4.out.erow HGR4.out, GRow.nil _ _, Row.empty _ _ _ (Nat.zero_le _) (fun _ => rfl), HMC.out, hL.out, rfl, rfl⟩ HNO4.out r3 HX64.out (noB8_ms _ _ _ _ _ _ _ _ _ _ _ _ _ _ _ _ _ _)) (HNO4.out.only r3 HX64.out) HV.out
      | false =>
        have HNPE : Hid (PE ≠ P3) := Lib.hid (fun e => by have h1 := HX34.out; have h2 := HXE.out; unfold RecAt at h1 h2; rw [e, h1] at h2; simp at h2)
        have HFN : Hid (fs.length = j) := Lib.hid (by rw [HDP4.out.1, hL.out])
        have HT1 : Hid (([] : List Fx).length + fs.length ≤ 1000000) := Lib.hid (by rw [HFN.out]; simp; omega)
        have HT2 : Hid (fs.length + [(⟨T', Z, d1, L, c1⟩ : Fx)].length ≤ 1000000) := Lib.hid (by rw [HFN.out]; simp; omega)
        have HLEN : Hid ((fs ++ [(⟨T', Z, d1, L, c1⟩ : Fx)]).length = j + 1) := Lib.hid (by rw [List.length_append, HFN.out]; rfl)
        have HTW := Lib.hid (fun W (h : Below w4.heap.size w4 W) => HGR4.out.later h)
        have HKEEP : Hid (∀ w', Below w4.heap.size w4 w' → w'.cell? ⟨PE, 0, none⟩ = some (.int .i64 T') ∧ w'.cell? ⟨PE, 1, none⟩ = some (.int .i64 Z) ∧ w'.cell? ⟨PE, 2, none⟩ = some (.slice d1 L c1)) := Lib.hid (fun w' hb => ⟨(HXE.out.later hb).cell rfl, (HXE.out.later hb).cell rfl, (HXE.out.later hb).cell rfl⟩)
        have HKST : Hid (∀ w' v, Below w4.heap.size w4 w' → (w'.setCell ⟨P3, 7, none⟩ v).cell? ⟨PE, 0, none⟩ = some (.int .i64 T') ∧ (w'.setCell ⟨P3, 7, none⟩ v).cell? ⟨PE, 1, none⟩ = some (.int .i64 Z) ∧ (w'.setCell ⟨P3, 7, none⟩ v).cell? ⟨PE, 2, none⟩ = some (.slice d1 L c1)) := Lib.hid (fun w' v hb => ⟨((HXE.out.later hb).other HNPE.out 7 v).cell rfl, ((HXE.out.later hb).other HNPE.out 7 v).cell rfl, ((HXE.out.later hb).other HNPE.out 7 v).cell rfl⟩)
        have HLX : Hid (∀ q cs, Below w4.heap.size w4 ((w4.drewN q).alloc (.cells cs 44))) := Lib.hid (fun q cs => (below_drewN w4 _).alloc (Nat.le_refl _) _)
        have HL4 : Hid (∀ q, w4.heap.size ≤ ((w4.drewN q).alloc (.cells #[] 44)).heap.size) := Lib.hid (fun q => by simp)
        have HLY : Hid (∀ q cs, Below w4.heap.size w4 (((w4.drewN q).alloc (.cells cs 44)).alloc (.cells #[] 44))) := Lib.hid (fun q cs => (HLX.out q cs).alloc (HLX.out q cs).size _)
        go_upto_region 21 with fail
        clear y0 y1 y2 y3 y4 y5 y6 y8 y9
        clear y7
        have ub0 := Try.underlying44
        have ub1 := Try.sizeOf44
        have ub2 := Try.underlying23
        -- REG A
        refine wp_region_ptab (L := fun ph => match ph with | 0 => [eV w4, cV (.pointer (some ⟨P3, 7, none⟩)), cV (.slice ap j cp), nV, cV (.agg #[.int .i64 T', .int .i64 Z, .slice d1 L c1]), rcV w4 #[.int .i64 T', .int .i64 Z, .slice d1 L c1], nV, cV (.pointer (some ⟨P3, 7, none⟩)), tV] | 1 => [tV, cV (.pointer (some ⟨P3, 7, none⟩)), cV (.slice ap j cp), gV w4 fs, cV (.agg #[.int .i64 T', .int .i64 Z, .slice d1 L c1]), rcV w4 #[.int .i64 T', .int .i64 Z, .slice d1 L c1], nV, cV (.pointer (some ⟨P3, 7, none⟩)), tV] | 2 => [tV, cV (.pointer (some ⟨P3, 7, none⟩)), cV (.slice ap j cp), tV, cV (.agg #[.int .i64 T', .int .i64 Z, .slice d1 L c1]), tV, gV w4 (fs ++ [⟨T', Z, d1, L, c1⟩]), cV (.pointer (some ⟨P3, 7, none⟩)), tV] | _ => [tV, cV (.pointer (some ⟨P3, 7, none⟩)), cV (.slice ap j cp), tV, cV (.agg #[.int .i64 T', .int .i64 Z, .slice d1 L c1]), tV, tV, cV (.pointer (some ⟨P3, 7, none⟩)), tV]) (jR w4 P3 (fs ++ [⟨T', Z, d1, L, c1⟩])) [3, 6, 8] [(0, 0), (0, 0), (0, 0), (0, 1), (0, 1), (0, 1), (1, 2), (0, 2), (2, 3)] [[], [(3, none)], [(90, some 1)], [(89, some 0), (91, some 2)], [(17, none)], [(93, some 4)], [(92, some 3), (94, some 5)], [(3, none)], [(96, some 7), (95, some 6)]] 9 3 121 (by kernel_rfl) rfl rfl rfl (by kernel_rfl) (by kernel_rfl) (by decide) (by kernel_rfl) ?_ ?_ ?_ ?_ ?_
        · exact jR_st w4 P3 _
        · exact Below.refl _ _
        · show ∀ i, i < 9 → _
          iterate 9 (refine fls ?_ ?_)
          · exact fl0
          · intro hne lo hi ph hran hp1 hp2 a w1 hJ hsz hs      -- 0: slot 89
            obtain ⟨rfl, rfl⟩ : 0 = lo ∧ 0 = hi := Prod.mk.inj (Option.some.inj hran)
            obtain rfl : ph = 0 := by omega
            refine op_run rfl rfl (v := .slice (some ⟨w1.heap.size, 0, none⟩) 0 0) (w' := w1.alloc (.cells #[] 44)) ?_ ⟨w1.heap.size, rfl, RecAt.new w1 #[] _, (show Below w4.heap.size w4 w1 from hJ).size⟩ ((Below.refl _ _).alloc (Nat.le_refl _) _)
            simp [execOp, Act.eval, go_sem, ub0, ub1, ub2]
          · intro hne lo hi ph hran hp1 hp2 a w1 hJ hsz hs      -- 1: slot 90
            obtain ⟨rfl, rfl⟩ : 0 = lo ∧ 0 = hi := Prod.mk.inj (Option.some.inj hran)
            obtain rfl : ph = 0 := by omega
            obtain ⟨h0, _⟩ := hs
            have h0 : a.tmps.getD 3 undef = .pointer (some ⟨P3, 0, none⟩) := h0
            refine op_run rfl rfl (v := .pointer (some ⟨P3, 7, none⟩)) (w' := w1) ?_ rfl (Below.refl _ _)
            simp [execOp, Act.eval, h0, go_sem]
          · intro hne lo hi ph hran hp1 hp2 a w1 hJ hsz hs      -- 2: slot 91
            obtain ⟨rfl, rfl⟩ : 0 = lo ∧ 0 = hi := Prod.mk.inj (Option.some.inj hran)
            obtain rfl : ph = 0 := by omega
            obtain ⟨h0, _⟩ := hs
            have h0 : a.tmps.getD 90 undef = .pointer (some ⟨P3, 7, none⟩) := h0
            have z0 : w1.cell? ⟨P3, 7, none⟩ = some (.slice ap j cp) := (HX34.out.later (show Below w4.heap.size w4 w1 from hJ)).cell rfl
            refine op_run rfl rfl (v := .slice ap j cp) (w' := w1) ?_ rfl (Below.refl _ _)
            simp [execOp, Act.eval, h0, z0, go_sem]
          · intro hne lo hi ph hran hp1 hp2 a w1 hJ hsz hs      -- 3: slot 92
            exact absurd (by decide) hne
          · intro hne lo hi ph hran hp1 hp2 a w1 hJ hsz hs      -- 4: slot 93
            obtain ⟨rfl, rfl⟩ : 0 = lo ∧ 1 = hi := Prod.mk.inj (Option.some.inj hran)
            rcases (by omega : ph = 0 ∨ ph = 1) with rfl | rfl
            · obtain ⟨h0, _⟩ := hs
              have h0 : a.tmps.getD 17 undef = .pointer (some ⟨PE, 0, none⟩) := h0
              obtain ⟨z0, z1, z2⟩ := HKEEP.out w1 (show Below w4.heap.size w4 w1 from hJ)
              refine op_run rfl rfl (v := .agg #[.int .i64 T', .int .i64 Z, .slice d1 L c1]) (w' := w1) ?_ rfl (Below.refl _ _)
              simp [execOp, Act.eval, h0, z0, z1, z2, go_sem]
            · obtain ⟨h0, _⟩ := hs
              have h0 : a.tmps.getD 17 undef = .pointer (some ⟨PE, 0, none⟩) := h0
              obtain ⟨z0, z1, z2⟩ := HKEEP.out w1 (show Below w4.heap.size w4 w1 from hJ)
              refine op_run rfl rfl (v := .agg #[.int .i64 T', .int .i64 Z, .slice d1 L c1]) (w' := w1) ?_ rfl (Below.refl _ _)
              simp [execOp, Act.eval, h0, z0, z1, z2, go_sem]
          · intro hne lo hi ph hran hp1 hp2 a w1 hJ hsz hs      -- 5: slot 94
            obtain ⟨rfl, rfl⟩ : 0 = lo ∧ 1 = hi := Prod.mk.inj (Option.some.inj hran)
            rcases (by omega : ph = 0 ∨ ph = 1) with rfl | rfl
            · obtain ⟨h0, _⟩ := hs
              have h0 : a.tmps.getD 93 undef = .agg #[.int .i64 T', .int .i64 Z, .slice d1 L c1] := h0
              have g0 : a.tmps[93]?.getD undef = .agg #[.int .i64 T', .int .i64 Z, .slice d1 L c1] := (Array.getD_eq_getD_getElem? ..).symm.trans h0
              refine op_run rfl rfl (v := .slice (some ⟨w1.heap.size, 0, none⟩) 1 1) (w' := w1.alloc (.cells #[.int .i64 T', .int .i64 Z, .slice d1 L c1] 44)) ?_ ⟨w1.heap.size, rfl, RecAt.new w1 _ _, (show Below w4.heap.size w4 w1 from hJ).size⟩ ((Below.refl _ _).alloc (Nat.le_refl _) _)
              simp [execOp, Act.eval, g0, go_sem, ub0, ub1, ub2]
            · obtain ⟨h0, _⟩ := hs
              have h0 : a.tmps.getD 93 undef = .agg #[.int .i64 T', .int .i64 Z, .slice d1 L c1] := h0
              have g0 : a.tmps[93]?.getD undef = .agg #[.int .i64 T', .int .i64 Z, .slice d1 L c1] := (Array.getD_eq_getD_getElem? ..).symm.trans h0
              refine op_run rfl rfl (v := .slice (some ⟨w1.heap.size, 0, none⟩) 1 1) (w' := w1.alloc (.cells #[.int .i64 T', .int .i64 Z, .slice d1 L c1] 44)) ?_ ⟨w1.heap.size, rfl, RecAt.new w1 _ _, (show Below w4.heap.size w4 w1 from hJ).size⟩ ((Below.refl _ _).alloc (Nat.le_refl _) _)
              simp [execOp, Act.eval, g0, go_sem, ub0, ub1, ub2]
          · intro hne lo hi ph hran hp1 hp2 a w1 hJ hsz hs      -- 6: slot 95
            exact absurd (by decide) hne
          · intro hne lo hi ph hran hp1 hp2 a w1 hJ hsz hs      -- 7: slot 96
            obtain ⟨rfl, rfl⟩ : 0 = lo ∧ 2 = hi := Prod.mk.inj (Option.some.inj hran)
            rcases (by omega : ph = 0 ∨ ph = 1 ∨ ph = 2) with rfl | rfl | rfl
            · obtain ⟨h0, _⟩ := hs
              have h0 : a.tmps.getD 3 undef = .pointer (some ⟨P3, 0, none⟩) := h0
              refine op_run rfl rfl (v := .pointer (some ⟨P3, 7, none⟩)) (w' := w1) ?_ rfl (Below.refl _ _)
              simp [execOp, Act.eval, h0, go_sem]
            · obtain ⟨h0, _⟩ := hs
              have h0 : a.tmps.getD 3 undef = .pointer (some ⟨P3, 0, none⟩) := h0
              refine op_run rfl rfl (v := .pointer (some ⟨P3, 7, none⟩)) (w' := w1) ?_ rfl (Below.refl _ _)
              simp [execOp, Act.eval, h0, go_sem]
            · obtain ⟨h0, _⟩ := hs
              have h0 : a.tmps.getD 3 undef = .pointer (some ⟨P3, 0, none⟩) := h0
              refine op_run rfl rfl (v := .pointer (some ⟨P3, 7, none⟩)) (w' := w1) ?_ rfl (Below.refl _ _)
              simp [execOp, Act.eval, h0, go_sem]
          · intro hne lo hi ph hran hp1 hp2 a w1 hJ hsz hs      -- 8: slot None
            exact absurd (by decide) hne
        · show ∀ ph, ph < 3 → _
          iterate 3 (refine fls ?_ ?_)
          · exact fl0
          · intro i hi a w1 hJ hsz hs      -- heavy 0: op 3 slot 92
            obtain rfl : 3 = i := Option.some.inj hi
            obtain ⟨h0, h1, _⟩ := hs
            have m0 : (eV w4).p w1 (a.tmps.getD 89 undef) := h0
            have h1 : a.tmps.getD 91 undef = .slice ap j cp := h1
            obtain ⟨g, hv0, hg, hgs⟩ := (show ∃ g, a.tmps.getD 89 undef = .slice (some ⟨g, 0, none⟩) 0 0 ∧ RecAt w1 g #[] 44 ∧ w4.heap.size ≤ g from m0)
            have hB := (show Below w4.heap.size w4 w1 from hJ)
            refine hv_gapp fxOk rfl rfl (.tmp 89) (.tmp 91) rfl rfl _ [] (show a.tmps.getD 89 undef = _ from hv0) w4 (own_of_rec hg hgs hB) ap cp j fs (HGR4.out.later hB) HFN.out h1 HT1.out ?_
            intro v' w' o1 g1
            rw [List.nil_append] at o1
            have hsp : ∀ v, (rcV w4 #[.int .i64 T', .int .i64 Z, .slice d1 L c1]).p w1 v → (rcV w4 #[.int .i64 T', .int .i64 Z, .slice d1 L c1]).p w' v := fun v ⟨x, e1, e2, e3⟩ => ⟨x, e1, e2.grown g1 (fun e => by cases e; unfold RecAt at hg e2; rw [hg] at e2; simp at e2), e3⟩
            exact ⟨o1, o1.below, (Calm5.all (n := 0) ⟨.inr fun _ _ => trivial, .inr fun _ h => h, .inr fun _ h => h, .inl rfl, .inr fun _ h => h, .inr hsp, .inr fun _ h => h.elim, .inr fun _ h => h, .inr fun _ _ => trivial, trivial⟩)⟩
          · intro i hi a w1 hJ hsz hs      -- heavy 1: op 6 slot 95
            obtain rfl : 6 = i := Option.some.inj hi
            obtain ⟨h0, h1, _⟩ := hs
            have m0 : (gV w4 fs).p w1 (a.tmps.getD 92 undef) := h0
            have m1 : (rcV w4 #[.int .i64 T', .int .i64 Z, .slice d1 L c1]).p w1 (a.tmps.getD 94 undef) := h1
            obtain ⟨x, hv1, hx, hxs⟩ := (show ∃ g, a.tmps.getD 94 undef = .slice (some ⟨g, 0, none⟩) 1 1 ∧ RecAt w1 g #[.int .i64 T', .int .i64 Z, .slice d1 L c1] 44 ∧ w4.heap.size ≤ g from m1)
            refine hv_gapp fxOk rfl rfl (.tmp 92) (.tmp 94) rfl rfl _ fs rfl w4 (show GOwn fxT w4 w1 (a.tmps.getD 92 undef) fs from m0) (some ⟨x, 0, none⟩) 1 1 [(⟨T', Z, d1, L, c1⟩ : Fx)] (grow_of_rec fxOk hx trivial rfl) rfl hv1 HT2.out ?_
            intro v' w' o1 g1
            exact ⟨o1, o1.below, (Calm5.all (n := 0) ⟨.inr fun _ _ => trivial, .inr fun _ h => h, .inr fun _ h => h, .inr fun _ _ => trivial, .inr fun _ h => h, .inr fun _ _ => trivial, .inl rfl, .inr fun _ h => h, .inr fun _ _ => trivial, trivial⟩)⟩
          · intro i hi a w1 hJ hsz hs      -- heavy 2: op 8 slot None
            obtain rfl : 8 = i := Option.some.inj hi
            obtain ⟨h0, h1, _⟩ := hs
            have h0 : a.tmps.getD 96 undef = .pointer (some ⟨P3, 7, none⟩) := h0
            have g0 : a.tmps[96]?.getD undef = .pointer (some ⟨P3, 7, none⟩) := (Array.getD_eq_getD_getElem? ..).symm.trans h0
            have m1 : (gV w4 (fs ++ [⟨T', Z, d1, L, c1⟩])).p w1 (a.tmps.getD 95 undef) := h1
            obtain ⟨aE, cE, he, _, _⟩ := GOwn.row_far fxOk (show GOwn fxT w4 w1 (a.tmps.getD 95 undef) (fs ++ [⟨T', Z, d1, L, c1⟩]) from m1) HLEN.out
            have he2 : a.tmps[95]?.getD undef = .slice aE (j + 1) cE := by rw [← Array.getD_eq_getD_getElem?]; exact he
            have hB := (show Below w4.heap.size w4 w1 from hJ)
            have cc : w1.cell? ⟨P3, 7, none⟩ = some (.slice ap j cp) := (HX34.out.later hB).cell rfl
            have cf := (HX34.out.later hB).frozen 7
            refine hv_skip rfl rfl (w' := w1.setCell ⟨P3, 7, none⟩ (.slice aE (j + 1) cE)) ?_ trivial ⟨w1, _, by rw [← he]; exact m1, Below.refl _ _⟩ (Calm5.all (n := 0) ⟨.inr fun _ _ => trivial, .inr fun _ h => h, .inr fun _ h => h, .inr fun _ _ => trivial, .inr fun _ h => h, .inr fun _ _ => trivial, .inr fun _ _ => trivial, .inr fun _ h => h, .inl rfl, trivial⟩)
            simp [execOp, Act.eval, h0, g0, he, he2, go_sem, cc, cf]
        intro f w1 hJ hv
        clear hv
        try simp only [Exit.then]
        simp only [putAll, List.foldl_cons, List.foldl_nil, Option.getD_some, Act.put, List.setIfInBounds_toArray, List.set_cons_succ, List.set_cons_zero]
        obtain ⟨w6', v6, o5, hb7⟩ := (show ∃ w6 v, GOwn fxT w4 w6 v (fs ++ [⟨T', Z, d1, L, c1⟩]) ∧ Below (w6.setCell ⟨P3, 7, none⟩ v).heap.size (w6.setCell ⟨P3, 7, none⟩ v) w1 from hJ)
        obtain ⟨aE, cE, rfl, rE, fE⟩ := o5.row_far fxOk HLEN.out
        -- END A
        all_goals
          have HB46 := Lib.hid o5.below
          have HNE6 := Lib.hid (o5.nms (by decide))
          have HB67 := Lib.hid hb7
          have HX36' := Lib.hid (((HX34.out.later HB46.out).set 7 (.slice aE (j + 1) cE)).later HB67.out)
          have HX66' := Lib.hid (((HX64.out.later HB46.out).other (y := P3) (by have := HP3.out; have := HP6.out; omega) 7 (.slice aE (j + 1) cE)).later HB67.out)
          have HB6s := Lib.hid ((HB4.out.trans (HB46.out.mono HB4.out.size)).setCell (p := ⟨P3, 7, none⟩) (by have := HP3.out; simp only; omega) (.slice aE (j + 1) cE))
          have HB6' := Lib.hid (HB6s.out.trans (HB67.out.mono HB6s.out.size))
          have HTR6 := Lib.hid (((HTR4.out.later HB46.out).only (OnlyP.set w6' P3 7 (.slice aE (j + 1) cE)) (fun x hx => by have h1 := HF6.out x hx; have := HP3.out; omega)).later HB67.out)
          have HGR6 := Lib.hid ((rE.only (OnlyP.set w6' P3 7 (.slice aE (j + 1) cE)) (fun x hx => by have h1 := fE x hx; have h2 := HX34.out.lt; omega)).later HB67.out)
          have HDP6 := Lib.hid ((((HDP4.out.later HB46.out).snoc (f := ⟨T', Z, d1, L, c1⟩) (e := ⟨T', Z, D⟩) rfl rfl HLL.out.symm (HR4.out.later HB46.out)).only (OnlyP.set w6' P3 7 (.slice aE (j + 1) cE)) (HX34.out.later HB46.out) (noB8_ms _ _ _ _ _ _ _ _ _ _ _ _ _ _ _ _ _ _)).later HB67.out)
          have HNO6 : Hid (MsNo w1 ⟨a5, mc, c5, aE, j + 1, cE, none, 0, 0, none, 0, 0⟩) := Lib.hid (MsNo.later (MsNo.only (w := w6') ⟨HNO4.out.1.later HB46.out, HNE6.out, NMs.none _⟩ (OnlyP.set w6' P3 7 (.slice aE (j + 1) cE)) (HX34.out.later HB46.out)) HB67.out)
          have HFA6 : Hid (∀ x, aE = some x → w.heap.size + 2 ≤ x.block) := Lib.hid (fun x hx => by have h1 := fE x hx; have h2 := HX64.out.lt; have := HP6.out; omega)
          simp only [List.setIfInBounds_toArray, List.set_cons_zero, List.set_cons_succ] at HX36'
          have HLJ : Hid ((es ++ [(⟨T', Z, D⟩ : En)]).length = j + 1) := Lib.hid (by rw [List.length_append, hL.out]; rfl)
          have HUU : Hid (∀ d, MsOk d → d.kind = k → l.drop p = tailM d → es ++ [(⟨T', Z, D⟩ : En)] = d.ents.take (j + 1) ∧ a1 = qe + endE d.ents (j + 1)) := Lib.hid (fun d hd h1 h7 => ⟨(HU2.out d hd h1 h7).1, (HU2.out d hd h1 h7).2.1⟩)
          clear o5 hb7 rE fE
          go_wp2_with fail
          all_goals exact ⟨⟨j + 1, a1, _, _, aE, cE, by go_num, rfl, by omega, HA1, HLJ, HX36', HX66', HB6', HTR6, HGR6, HDP6, HFA6, HNO6, HUU⟩, by simp [intOf]; omega⟩
    · have : j = N := by omega
      subst this
      have HRR : Hid (MsRows wr ⟨k, n, o, f, s, u, tc, es, [], []⟩ ⟨a5, mc, c5, ap, j, cp, none, 0, 0, none, 0, 0⟩) := Lib.hid ⟨hTR.out, hDP.out.erow hGR.out, GRow.nil _ _, Row.empty _ _ _ (Nat.zero_le _) (fun _ => rfl), HMC.out, hL.out, rfl, rfl⟩
      have HNO := hNO
      have HFF : Hid (MsFar (w.heap.size + 2) ⟨a5, mc, c5, ap, j, cp, none, 0, 0, none, 0, 0⟩) := Lib.hid (fun x hx => by
        rcases hx with h | h | h
        · exact HF6.out x h
        · exact hFA.out x h
        · cases h)
      have HG : Hid (∀ d, MsOk d → d.kind = k → d.nonce = n → d.pos = o → d.fin = f → d.stage = s → d.num = u → l.drop p = tailM d → (⟨k, n, o, f, s, u, tc, es, [], []⟩ : Ms) = d) := Lib.hid (fun d hd h1 h2 h3 h4 h5 h6 h7 => by
        obtain ⟨u1, _⟩ := hU.out d hd h1 h7
        obtain ⟨g1, _, _, _, t2, _, _⟩ := HF.out d hd h1 h7
        have ek : d.kind = 2 := by rw [h1]; exact HKX.out
        have hm : d.marks = [] := Classical.byContradiction fun h3 => by have := hd.2.1.2.2.2.2.2.2.1 h3; omega
        have hda : d.data = [] := data_nilN hd (by omega)
        rw [g1, List.take_length] at u1
        obtain ⟨d0, d1, d2, d3, d4, d5, d6, d7, d8, d9⟩ := d
        simp only at h1 h2 h3 h4 h5 h6 u1 t2 hm hda
        rw [h1, h2, h3, h4, h5, h6, u1, t2, hm, hda])
      go_wp2_with (refine wpList_rec rfl rfl P6 zeroMs #[.int .i64 k, .int .i64 n, .int .i64 o, .int .i64 f, .int .i64 s, .int .i64 u, .slice a5 mc c5, .slice ap j cp, .slice none 0 0, .slice none 0 0] rfl rfl hX6.out rfl (by kernel_rfl) (by kernel_rfl) ?_; intro w9 r1 r2 r3 r4)
      refine bodyPost_ret (results_ct rfl rfl r1 Try.underlying27 rfl (by kernel_rfl)) rfl ?_
      exact HQY.out ⟨k, n, o, f, s, u, tc, es, [], []⟩ ⟨a5, mc, c5, ap, j, cp, none, 0, 0, none, 0, 0⟩ _ (hB.out.grown r4 hB.out.size (fun q e => by cases e; have := HP6.out; omega)) (HRR.out.onlyN HNO.out r3 hX6.out (noB8_ms _ _ _ _ _ _ _ _ _ _ _ _ _ _ _ _ _ _)) (HNO.out.only r3 hX6.out) HG.out
end Go.Proofs.Ytiahifpbofkimaa
