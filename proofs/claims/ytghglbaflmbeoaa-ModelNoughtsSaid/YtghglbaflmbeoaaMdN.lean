/- Images: the document's own Fold, the law's After. -/
import Derived.Test.YtghglbaflmbeoaaMdM
import Derived.Test.YtghglbaflmbeoaaMdG
namespace Go.Proofs.Ytghglbaflmbeoaa
open Go.RowKit Go.Proofs
set_option linter.unusedVariables false
set_option linter.unusedSimpArgs false
set_option linter.unnecessarySimpa false

/-! ### what a state leans on is no block of states -/
theorem BQ.lessRec {J : Nat → Prop} {w : World} {v : Value} {l : List UInt8} (h : BQ J w v l) {P : Nat} {cs : Array Value} {T : TypeId} (hr : RecAt w P cs T) (hc : ∀ (i : Nat) (u : UInt8), cs[i]? ≠ some (B8 u)) : BQ (fun b => J b ∧ b ≠ P) w v l := by
  obtain ⟨a, cap, hv, hrow, hj⟩ := h
  refine ⟨a, cap, hv, hrow, fun hl x hx => ?_⟩
  obtain ⟨h1, h2⟩ := hj hl x hx
  refine ⟨h1, h2, fun e => ?_⟩
  obtain ⟨u, r, rfl⟩ := List.exists_cons_of_ne_nil hl
  have h0 := hrow.2.2.2 x hx 0 u rfl
  have hsp := World.cell?_spot h0
  have e1 : (x.add 0) = ⟨P, (x.add 0).off, none⟩ := by
    have e2 : (x.add 0).block = x.block := by unfold Addr.add; split <;> rfl
    rw [← e, ← e2]
    rcases hxa : x.add 0 with ⟨b, o, s⟩
    rw [hxa] at hsp
    simp only at hsp
    subst hsp; rfl
  rw [e1] at h0
  unfold RecAt at hr
  simp only [World.cell?, hr] at h0
  exact hc _ u (by simpa using h0)
theorem StA.lessRec {J : Nat → Prop} {w : World} {d v : Value} {s : Sx} (h : StA J w d v s) {P : Nat} {a1 a2 : Option Addr} {n1 n2 c1 c2 : Nat} {T : TypeId} (hr : RecAt w P #[.slice a1 n1 c1, .slice a2 n2 c2] T) : StA (fun b => J b ∧ b ≠ P) w d v s := by
  have hb : ∀ (i : Nat) (u : UInt8), (#[.slice a1 n1 c1, .slice a2 n2 c2] : Array Value)[i]? ≠ some (B8 u) := by
    intro i u e
    match i with
    | 0 => simp [B8] at e
    | 1 => simp [B8] at e
    | i + 2 => simp at e
  refine ⟨h.data.lessRec hr hb, ?_⟩
  obtain ⟨css, a, cap, hv, h1, h3, h2⟩ := h.snaps
  refine ⟨css, a, cap, hv, h1, fun hl x hx => ⟨(h3 hl x hx).1, (h3 hl x hx).2, fun e => ?_⟩, h2.mono fun c t ⟨S, v, q1, q2, q3, q4⟩ => ⟨S, v, q1, q2, q3, q4.lessRec hr hb⟩⟩
  obtain ⟨t, r, hts⟩ := List.exists_cons_of_ne_nil hl
  obtain ⟨c, hc, S, v0, q1, _⟩ := h2.at (i := 0) (b := t) (by rw [hts]; rfl)
  obtain ⟨b, off, ha, hq⟩ := h1.at hc
  rw [hx] at ha
  cases ha
  have h0 := hq 0 (.string S) (by show c.1[0]? = _; rw [q1]; rfl)
  simp only at e
  subst e
  unfold RecAt at hr
  simp only [World.cell?, hr] at h0
  simp only [Nat.zero_mul, Nat.add_zero] at h0
  match off, h0 with
  | 0, h0 => simp at h0
  | 1, h0 => simp at h0
  | o + 2, h0 => simp at h0
def apV (J : Nat → Prop) (s : Sx) (c : Int) : SV := ⟨fun w x => ∃ d v, x = .tuple #[.agg #[d, v], .int .i64 c] ∧ StA J w d v s, fun w w' x ⟨d, v, h1, h2⟩ hb => ⟨d, v, h1, h2.later hb⟩⟩
def tuV (c : Int) : SV := ⟨fun w x => ∃ d v, x = .tuple #[.agg #[d, v], .int .i64 c], fun w w' x h hb => h⟩
def stV (J : Nat → Prop) (s : Sx) : SV := ⟨fun w x => ∃ d v, x = .agg #[d, v] ∧ StA J w d v s, fun w w' x ⟨d, v, h1, h2⟩ hb => ⟨d, v, h1, h2.later hb⟩⟩
def rjV (J : Nat → Prop) (W0 : World) (s : Sx) : SV := ⟨fun w x => ∃ g d v, x = .pointer (some ⟨g, 0, none⟩) ∧ RecAt w g #[d, v] 28 ∧ W0.heap.size ≤ g ∧ StA J w d v s, fun w w' x ⟨g, d, v, h1, h2, h3, h4⟩ hb => ⟨g, d, v, h1, h2.later hb, h3, h4.later hb⟩⟩
theorem foldM_take {s : Sx} {l : List Ev} {j : Nat} {e : Ev} (h : l[j]? = some e) : foldM s (l.take (j + 1)) = stepM (foldM s (l.take j)) e := by
  rw [List.take_add_one, h]
  exact foldM_snoc s (l.take j) e
def FoldIs (J : Nat → Prop) (w : World) (s : Sx) (e : Ending) (w' : World) : Prop := ∃ d v, e = .returned (.agg #[d, v]) ∧ StA J w' d v s ∧ Below w.heap.size w w'
set_option maxRecDepth 20000 in
set_option maxHeartbeats 12800000 in
theorem rfold14_any (d v : Value) (s : Sx) (a : Option Addr) (n cap : Nat) (l : List Ev) (J JE : Nat → Prop) (w : World) (hJ : NewJ J w) (h : StA J w d v s) (hok : StOk s) (hl : QE JE w (.slice a n cap) l) :
    Calls Try.prog 44 #[.agg #[d, v], .slice a n cap] w fun e w' => FoldIs J w (foldM s l) e w' := by
  obtain ⟨a1, c1, a2, c2, rfl, rfl, -, -⟩ := h.open
  obtain ⟨hn, hcap, hcm, hca⟩ := hl.cap
  unfold maxLen at hcm
  obtain ⟨nd, hnd⟩ : ∃ z, s.data.length = z := ⟨_, rfl⟩
  obtain ⟨nv, hnv⟩ : ∃ z, s.snaps.length = z := ⟨_, rfl⟩
  rw [hnd, hnv] at h ⊢
  obtain ⟨X0, X1, B2⟩ := two_recsS w #[.slice a1 nd c1, .slice a2 nv c2] zeroSt 28 28
  obtain ⟨wa, hwa⟩ : ∃ W, ((w.alloc (.cells #[.slice a1 nd c1, .slice a2 nv c2] 28)).alloc (.cells zeroSt 28)) = W := ⟨_, rfl⟩
  rw [hwa] at X0 X1 B2
  obtain ⟨JF, hJF⟩ : ∃ JF : Nat → Prop, (fun b => J b ∧ b ≠ w.heap.size ∧ b ≠ w.heap.size + 1) = JF := ⟨_, rfl⟩
  have HST0 := Lib.hid ((h.weak (J' := JF) fun b hb hj => by subst hJF; exact ⟨hj, by omega, by omega⟩).later B2)
  have HJF : Hid (∀ b, JF b → J b ∧ b ≠ w.heap.size ∧ b ≠ w.heap.size + 1) := Lib.hid (by subst hJF; exact fun b hb => hb)
  have HJN : Hid (∀ b, w.heap.size + 2 ≤ b → JF b) := Lib.hid (by subst hJF; exact fun b hb => ⟨hJ b (by omega), by omega, by omega⟩)
  have HSZ : Hid (w.heap.size + 2 ≤ wa.heap.size) := Lib.hid (by have := X1.lt; omega)
  have HX0 := Lib.hid X0
  have HX1 := Lib.hid X1
  have HB2 := Lib.hid B2
  have HL := Lib.hid hl
  have HN := Lib.hid hn
  have HOK := Lib.hid hok
  obtain ⟨F, hF⟩ : ∃ z, foldM s l = z := ⟨_, rfl⟩
  have HF := Lib.hid hF
  rw [hF]
  clear h X0 X1 B2 hl hn hnd hnv hJF hJ hok hF
  go_enter Try.func44, Try.ntmps44
  go_upto_region 1 with fail
  try rw [hwa]
  clear hwa
  obtain ⟨X, hX⟩ : ∃ X, w.heap.size = X := ⟨_, rfl⟩
  simp only [hX] at HX0 HX1 HJF HJN HSZ ⊢
  have HXS := Lib.hid hX
  clear hX
  have ub0 := Try.underlying28
  go_wp2_with fail
  go_loopw [5] (fun i wr => ∃ (j : Nat) (ad : Option Addr) (nd cd : Nat) (av : Option Addr) (nv cv : Nat), i = .int .i64 j ∧ j ≤ n ∧ Below w.heap.size w wr ∧ Hid (X + 2 ≤ wr.heap.size) ∧ Hid (RecAt wr X #[.slice ad nd cd, .slice av nv cv] 28) ∧ Hid (RecAt wr (X + 1) zeroSt 28) ∧ Hid (StA JF wr (.slice ad nd cd) (.slice av nv cv) (foldM s (l.take j)))) (fun i _ => n - (intOf i).toNat)
  case atStart => exact ⟨0, _, _, _, _, _, _, rfl, by omega, HB2.out, HSZ, HX0, HX1, HST0⟩
  case round =>
    obtain ⟨j, ad, nd, cd, av, nv, cv, rfl, hj, hbr, HSR, HRX, HRY, HST⟩ := hrel
    obtain ⟨wo, hwo⟩ : ∃ W, W = wr := ⟨_, rfl⟩
    subst hwo
    have HBR := Lib.hid hbr
    clear hbr
    by_cases hjn : (j : Int) < n
    · have hjd : decide ((j : Int) < (n : Int)) = true := decide_eq_true hjn
      have HJN2 : Hid (j < n) := Lib.hid (by omega)
      obtain ⟨ev, hev⟩ : ∃ e, l[j]? = some e := ⟨l[j]'(by have := HN.out; omega), List.getElem?_eq_getElem _⟩
      obtain ⟨b1, f1, S, a2, c2, ha, p0, p1, p2, p3, p4, hS, hS2, hrow⟩ := (HL.out.later ev_rel HBR.out).e5 hev
      subst ha
      have hokj := foldM_ok HOK.out (l.take j)
      obtain ⟨sj, hsj⟩ : ∃ z, foldM s (l.take j) = z := ⟨_, rfl⟩
      have HTK := Lib.hid (foldM_take (s := s) hev)
      rw [hsj] at hokj HST HTK
      have hevn : (⟨ev.kind, ev.off, ev.len, ev.data, S.data.toList⟩ : Ev) = ev := by rw [hS]
      obtain ⟨s1, CE, hap⟩ : ∃ s1 CE, applyM sj ev = (s1, CE) := ⟨_, _, rfl⟩
      obtain ⟨dj, vj, HST1, HST2⟩ : ∃ dj vj, Value.slice ad nd cd = dj ∧ Value.slice av nv cv = vj := ⟨_, _, rfl, rfl⟩
      have HAP : Hid (∀ W, Below wo.heap.size wo W → Calls Try.prog 17 #[.agg #[.slice ad nd cd, .slice av nv cv], .agg #[.int .i64 ev.kind, .int .i64 ev.off, .int .i64 ev.len, .slice a2 ev.data.length c2, .string S]] W fun e w' => ∃ d2 v2, e = .returned (.tuple #[.agg #[d2, v2], .int .i64 CE]) ∧ StA JF w' d2 v2 s1 ∧ Below W.heap.size W w') := Lib.hid fun W hb => by
        refine (rapply14_any (.slice ad nd cd) (.slice av nv cv) sj ev.kind ev.off ev.len a2 ev.data.length c2 ev.data S JF W (fun b hb2 => HJN.out b (by have := HSR.out; have := hb.size; omega)) (HST.out.later hb) (hrow.later hb) rfl hS2 (by have := hokj.size; omega) (by have := hokj.many; omega) (fun q hq => by have := hokj.sizes q hq; omega)).mono ?_
        rintro e w' ⟨d2, v2, h1, h2, h3⟩
        rw [hevn, hap] at h1 h2
        exact ⟨d2, v2, h1, h2, h3⟩
      have HE5 : Hid (∀ W, Below wo.heap.size wo W → W.cell? ⟨b1, f1 + j * 5, none⟩ = some (.int .i64 ev.kind) ∧ W.cell? ⟨b1, f1 + j * 5 + 1, none⟩ = some (.int .i64 ev.off) ∧ W.cell? ⟨b1, f1 + j * 5 + 2, none⟩ = some (.int .i64 ev.len) ∧ W.cell? ⟨b1, f1 + j * 5 + 3, none⟩ = some (.slice a2 ev.data.length c2) ∧ W.cell? ⟨b1, f1 + j * 5 + 4, none⟩ = some (.string S)) := Lib.hid fun W hb => by
        refine ⟨?_, ?_, ?_, ?_, ?_⟩
        · rw [hb.cell (World.block_lt_of_cell? _ _ p0)]; exact p0
        · rw [hb.cell (World.block_lt_of_cell? _ _ p1)]; exact p1
        · rw [hb.cell (World.block_lt_of_cell? _ _ p2)]; exact p2
        · rw [hb.cell (World.block_lt_of_cell? _ _ p3)]; exact p3
        · rw [hb.cell (World.block_lt_of_cell? _ _ p4)]; exact p4
      have HYES : Hid (CE = 0 → s1 = foldM s (l.take (j + 1))) := Lib.hid fun h0 => by
        rw [HTK.out]
        by_cases c : checkM sj ev = 0
        · rw [applyM_yes c] at hap; rw [stepM_yes c]; exact (Prod.mk.inj hap).1.symm
        · rw [applyM_no c] at hap; exact absurd ((Prod.mk.inj hap).2.trans h0) c
      have HNO : Hid (CE ≠ 0 → sj = foldM s (l.take (j + 1))) := Lib.hid fun h0 => by
        rw [HTK.out]
        by_cases c : checkM sj ev = 0
        · rw [applyM_yes c] at hap; exact absurd (Prod.mk.inj hap).2.symm h0
        · rw [stepM_no c]
      obtain ⟨K1, hK1⟩ : ∃ z, ev.kind = z := ⟨_, rfl⟩
      obtain ⟨K2, hK2⟩ : ∃ z, ev.off = z := ⟨_, rfl⟩
      obtain ⟨K3, hK3⟩ : ∃ z, ev.len = z := ⟨_, rfl⟩
      obtain ⟨L1, hL1⟩ : ∃ z, ev.data.length = z := ⟨_, rfl⟩
      rw [hK1, hK2, hK3, hL1] at HAP HE5
      clear hK1 hK2 hK3 hL1 hap hevn hS hS2 hrow hev p0 p1 p2 p3 p4 hokj HST1 HST2 HTK
      obtain ⟨x0, x1⟩ := HRX.out.c2
      go_upto_region 4 with fail
      clear x0 x1
      -- REG A4
      refine wp_region_ptabW (L := fun ph => match ph with | 0 => [cV (.agg #[.slice ad nd cd, .slice av nv cv]), cV (.slice (some ⟨b1, f1, none⟩) n cap), cV (.int .i64 (j : Nat)), cV (.pointer (some ⟨b1, f1 + j * 5, none⟩)), cV (.agg #[.int .i64 K1, .int .i64 K2, .int .i64 K3, .slice a2 L1 c2, .string S]), apV JF s1 CE, apV JF s1 CE, stV JF s1, cV (.int .i64 CE), zsV wo, tV, cV (.int .i64 CE)] | _ => [cV (.agg #[.slice ad nd cd, .slice av nv cv]), cV (.slice (some ⟨b1, f1, none⟩) n cap), cV (.int .i64 (j : Nat)), cV (.pointer (some ⟨b1, f1 + j * 5, none⟩)), cV (.agg #[.int .i64 K1, .int .i64 K2, .int .i64 K3, .slice a2 L1 c2, .string S]), tV, tuV CE, tV, cV (.int .i64 CE), rjV JF wo s1, tV, cV (.int .i64 CE)]) (fun _ wq => Below wo.heap.size wo wq) [10] [(0, 0), (0, 0), (0, 0), (0, 0), (0, 0), (0, 0), (0, 0), (0, 0), (0, 1), (0, 0), (0, 1), (0, 1)] [[(2, none)], [(1, none)], [(5, none)], [(16, some 1), (17, some 2)], [(18, some 3)], [(15, some 0), (19, some 4)], [(20, some 5)], [(14, some 6)], [(14, some 6)], [], [(6, some 9), (21, some 7)], [(22, some 8)]] 12 1 27 (by kernel_rfl) rfl rfl rfl (by kernel_rfl) (by kernel_rfl) (by decide) (by kernel_rfl) ?_ ?_ ?_ ?_ ?_
      · exact fun ph w1 w2 h hb => h.trans (hb.mono h.size)
      · exact (Below.refl _ _)
      · show ∀ i, i < 12 → _
        iterate 12 (refine fls ?_ ?_)
        · exact fl0
        · intro hne lo hi ph hran hp1 hp2 a w1 hJ hsz hs      -- 0: slot 15
          obtain ⟨rfl, rfl⟩ : 0 = lo ∧ 0 = hi := Prod.mk.inj (Option.some.inj hran)
          obtain rfl : ph = 0 := by omega
          obtain ⟨h0, _⟩ := hs
          have h0 : a.tmps.getD 2 undef = .pointer (some ⟨X, 0, none⟩) := h0
          obtain ⟨x0, x1⟩ := (HRX.out.later (show Below wo.heap.size wo w1 from hJ)).c2
          refine op_run rfl rfl (v := .agg #[.slice ad nd cd, .slice av nv cv]) (w' := w1) ?_ rfl (Below.refl _ _)
          simp [execOp, Act.eval, h0, x0, x1, go_sem]
        · intro hne lo hi ph hran hp1 hp2 a w1 hJ hsz hs      -- 1: slot 16
          obtain ⟨rfl, rfl⟩ : 0 = lo ∧ 0 = hi := Prod.mk.inj (Option.some.inj hran)
          obtain rfl : ph = 0 := by omega
          obtain ⟨h0, _⟩ := hs
          have h0 : a.tmps.getD 1 undef = .slice (some ⟨b1, f1, none⟩) n cap := h0
          refine op_run rfl rfl (v := .slice (some ⟨b1, f1, none⟩) n cap) (w' := w1) ?_ rfl (Below.refl _ _)
          simp [execOp, Act.eval, h0, go_sem]
        · intro hne lo hi ph hran hp1 hp2 a w1 hJ hsz hs      -- 2: slot 17
          obtain ⟨rfl, rfl⟩ : 0 = lo ∧ 0 = hi := Prod.mk.inj (Option.some.inj hran)
          obtain rfl : ph = 0 := by omega
          obtain ⟨h0, _⟩ := hs
          have h0 : a.tmps.getD 5 undef = .int .i64 (j : Nat) := h0
          refine op_run rfl rfl (v := .int .i64 (j : Nat)) (w' := w1) ?_ rfl (Below.refl _ _)
          simp [execOp, Act.eval, h0, go_sem]
        · intro hne lo hi ph hran hp1 hp2 a w1 hJ hsz hs      -- 3: slot 18
          obtain ⟨rfl, rfl⟩ : 0 = lo ∧ 0 = hi := Prod.mk.inj (Option.some.inj hran)
          obtain rfl : ph = 0 := by omega
          obtain ⟨h0, h1, _⟩ := hs
          have h0 : a.tmps.getD 16 undef = .slice (some ⟨b1, f1, none⟩) n cap := h0
          have h1 : a.tmps.getD 17 undef = .int .i64 (j : Nat) := h1
          have k1 := HJN2.out
          refine op_run rfl rfl (v := .pointer (some ⟨b1, f1 + j * 5, none⟩)) (w' := w1) ?_ rfl (Below.refl _ _)
          simp [execOp, Act.eval, h0, h1, k1, go_sem]
        · intro hne lo hi ph hran hp1 hp2 a w1 hJ hsz hs      -- 4: slot 19
          obtain ⟨rfl, rfl⟩ : 0 = lo ∧ 0 = hi := Prod.mk.inj (Option.some.inj hran)
          obtain rfl : ph = 0 := by omega
          obtain ⟨h0, _⟩ := hs
          have h0 : a.tmps.getD 18 undef = .pointer (some ⟨b1, f1 + j * 5, none⟩) := h0
          obtain ⟨k0, k1, k2, k3, k4⟩ := HE5.out w1 (show Below wo.heap.size wo w1 from hJ)
          refine op_run rfl rfl (v := .agg #[.int .i64 K1, .int .i64 K2, .int .i64 K3, .slice a2 L1 c2, .string S]) (w' := w1) ?_ rfl (Below.refl _ _)
          simp [execOp, Act.eval, h0, k0, k1, k2, k3, k4, go_sem]
        · intro hne lo hi ph hran hp1 hp2 a w1 hJ hsz hs      -- 5: slot 20
          obtain ⟨rfl, rfl⟩ : 0 = lo ∧ 0 = hi := Prod.mk.inj (Option.some.inj hran)
          obtain rfl : ph = 0 := by omega
          obtain ⟨h0, h1, _⟩ := hs
          have h0 : a.tmps.getD 15 undef = .agg #[.slice ad nd cd, .slice av nv cv] := h0
          have h1 : a.tmps.getD 19 undef = .agg #[.int .i64 K1, .int .i64 K2, .int .i64 K3, .slice a2 L1 c2, .string S] := h1
          refine op_call rfl rfl (f := 17) (args := #[.agg #[.slice ad nd cd, .slice av nv cv], .agg #[.int .i64 K1, .int .i64 K2, .int .i64 K3, .slice a2 L1 c2, .string S]]) (by simp [execOp, Act.eval, resolve, h0, h1, go_sem]) ?_
          exact (HAP.out w1 (show Below wo.heap.size wo w1 from hJ)).mono fun e w' he => by
            obtain ⟨d2, v2, h1, h2, h3⟩ := he
            exact ⟨_, h1, ⟨d2, v2, rfl, h2⟩, h3⟩
        · intro hne lo hi ph hran hp1 hp2 a w1 hJ hsz hs      -- 6: slot 14
          obtain ⟨rfl, rfl⟩ : 0 = lo ∧ 0 = hi := Prod.mk.inj (Option.some.inj hran)
          obtain rfl : ph = 0 := by omega
          obtain ⟨h0, _⟩ := hs
          have m0 : (apV JF s1 CE).p w1 (a.tmps.getD 20 undef) := h0
          obtain ⟨d2, v2, e20, hst⟩ := (show ∃ d v, a.tmps.getD 20 undef = .tuple #[.agg #[d, v], .int .i64 CE] ∧ StA JF w1 d v s1 from m0)
          refine op_run rfl rfl (v := .tuple #[.agg #[d2, v2], .int .i64 CE]) (w' := w1) ?_ ⟨d2, v2, rfl, hst⟩ (Below.refl _ _)
          simp [execOp, Act.eval, e20, go_sem]
        · intro hne lo hi ph hran hp1 hp2 a w1 hJ hsz hs      -- 7: slot 21
          obtain ⟨rfl, rfl⟩ : 0 = lo ∧ 0 = hi := Prod.mk.inj (Option.some.inj hran)
          obtain rfl : ph = 0 := by omega
          obtain ⟨h0, _⟩ := hs
          
          obtain ⟨d2, v2, e14, hst⟩ := (show ∃ d v, a.tmps.getD 14 undef = .tuple #[.agg #[d, v], .int .i64 CE] ∧ StA JF w1 d v s1 from h0)
          refine op_run rfl rfl (v := .agg #[d2, v2]) (w' := w1) ?_ ⟨d2, v2, rfl, hst⟩ (Below.refl _ _)
          simp [execOp, Act.eval, e14, go_sem]
        · intro hne lo hi ph hran hp1 hp2 a w1 hJ hsz hs      -- 8: slot 22
          obtain ⟨rfl, rfl⟩ : 0 = lo ∧ 1 = hi := Prod.mk.inj (Option.some.inj hran)
          rcases (by omega : ph = 0 ∨ ph = 1) with rfl | rfl
          · obtain ⟨h0, _⟩ := hs
            
            obtain ⟨d2, v2, e14⟩ : ∃ d v, a.tmps.getD 14 undef = .tuple #[.agg #[d, v], .int .i64 CE] := by
              first
              | exact h0
              | exact (let ⟨d, v, q, _⟩ := (show ∃ d v, a.tmps.getD 14 undef = .tuple #[.agg #[d, v], .int .i64 CE] ∧ StA JF w1 d v s1 from h0); ⟨d, v, q⟩)
            refine op_run rfl rfl (v := .int .i64 CE) (w' := w1) ?_ rfl (Below.refl _ _)
            simp [execOp, Act.eval, e14, go_sem]
          · obtain ⟨h0, _⟩ := hs
            
            obtain ⟨d2, v2, e14⟩ : ∃ d v, a.tmps.getD 14 undef = .tuple #[.agg #[d, v], .int .i64 CE] := by
              first
              | exact h0
              | exact (let ⟨d, v, q, _⟩ := (show ∃ d v, a.tmps.getD 14 undef = .tuple #[.agg #[d, v], .int .i64 CE] ∧ StA JF w1 d v s1 from h0); ⟨d, v, q⟩)
            refine op_run rfl rfl (v := .int .i64 CE) (w' := w1) ?_ rfl (Below.refl _ _)
            simp [execOp, Act.eval, e14, go_sem]
        · intro hne lo hi ph hran hp1 hp2 a w1 hJ hsz hs      -- 9: slot 6
          obtain ⟨rfl, rfl⟩ : 0 = lo ∧ 0 = hi := Prod.mk.inj (Option.some.inj hran)
          obtain rfl : ph = 0 := by omega
          refine op_run rfl rfl (v := .pointer (some ⟨w1.heap.size, 0, none⟩)) (w' := w1.alloc (.cells zeroSt 28)) ?_ ⟨w1.heap.size, rfl, RecAt.new w1 _ _, (show Below wo.heap.size wo w1 from hJ).size⟩ ((Below.refl _ _).alloc (Nat.le_refl _) _)
          simp [execOp, Act.eval, go_sem, ub0, zeroSt]
        · intro hne lo hi ph hran hp1 hp2 a w1 hJ hsz hs      -- 10: slot None
          exact absurd (by decide) hne
        · intro hne lo hi ph hran hp1 hp2 a w1 hJ hsz hs      -- 11: slot 7
          obtain ⟨rfl, rfl⟩ : 0 = lo ∧ 1 = hi := Prod.mk.inj (Option.some.inj hran)
          rcases (by omega : ph = 0 ∨ ph = 1) with rfl | rfl
          · obtain ⟨h0, _⟩ := hs
            have h0 : a.tmps.getD 22 undef = .int .i64 CE := h0
            refine op_run rfl rfl (v := .int .i64 CE) (w' := w1) ?_ rfl (Below.refl _ _)
            simp [execOp, Act.eval, h0, go_sem]
          · obtain ⟨h0, _⟩ := hs
            have h0 : a.tmps.getD 22 undef = .int .i64 CE := h0
            refine op_run rfl rfl (v := .int .i64 CE) (w' := w1) ?_ rfl (Below.refl _ _)
            simp [execOp, Act.eval, h0, go_sem]
      · show ∀ ph, ph < 1 → _
        iterate 1 (refine fls ?_ ?_)
        · exact fl0
        · intro i hi a w1 hJ hsz hs      -- heavy 0: op 10 slot None
          obtain rfl : 10 = i := Option.some.inj hi
          obtain ⟨h0, h1, _⟩ := hs
          have m0 : (zsV wo).p w1 (a.tmps.getD 6 undef) := h0
          have m1 : (stV JF s1).p w1 (a.tmps.getD 21 undef) := h1
          obtain ⟨PX, hvx, hX, hXs⟩ := (show ∃ g, a.tmps.getD 6 undef = .pointer (some ⟨g, 0, none⟩) ∧ RecAt w1 g zeroSt 28 ∧ wo.heap.size ≤ g from m0)
          obtain ⟨d1, v1, e21, md⟩ := (show ∃ d v, a.tmps.getD 21 undef = .agg #[d, v] ∧ StA JF w1 d v s1 from m1)
          have hone : (#[d1, v1] : Array Value).all (·.oneCell') = true := by
            obtain ⟨qa, qb, qc, qd, rfl, rfl, _, _⟩ := md.open
            simp [Value.oneCell']
          refine hv_recW rfl rfl (x := PX) (p := .tmp 6) (v := .tmp 21) (cs := zeroSt) (vs := #[d1, v1]) rfl hvx e21 hX rfl (by kernel_rfl) hone (fun w' => trivial) ?_
          intro w' r1 r2 r3 r4
          have hb : Below wo.heap.size wo w' := (show Below wo.heap.size wo w1 from hJ).grown r4 (show Below wo.heap.size wo w1 from hJ).size (fun q e => by cases e; exact hXs)
          have o1 : StA JF w' d1 v1 s1 := ((md.lessRec hX).keep (fun b hb2 hj => r3 b hj.2) (Nat.le_of_eq r2.symm)).weak fun b _ hj => hj.1
          exact ⟨hb, CalmW.all ⟨.inr fun _ _ h => h, .inr fun _ _ h => h, .inr fun _ _ h => h, .inr fun _ _ h => h, .inr fun _ _ h => h, .inr fun _ _ _ => trivial, .inr fun v hh h => (let ⟨d, v2, q, _⟩ := h; ⟨d, v2, q⟩), .inr fun _ _ _ => trivial, .inr fun _ _ h => h, .inr fun v hh _ => ⟨PX, d1, v1, (hh _ _ rfl rfl).trans hvx, r1, hXs, o1⟩, .inl rfl, .inr fun _ _ h => h, trivial⟩⟩
      intro f w1 hJ hv
      have e6 : (rjV JF wo s1).p w1 (f 6) := hv 9 _ 6 rfl rfl
      have e7 : f 7 = .int .i64 CE := hv 11 _ 7 rfl rfl
      have hbo : Below wo.heap.size wo w1 := hJ
      clear hv
      try simp only [Exit.then]
      simp only [putAll, List.foldl_cons, List.foldl_nil, Option.getD_some, Act.put, List.setIfInBounds_toArray, List.set_cons_succ, List.set_cons_zero]
      obtain ⟨PX, d1, v1, e6, r6, hXs, o1⟩ := e6
      rw [e6, e7]
      clear hJ e6 e7
      -- END A4
      have HBO := Lib.hid hbo
      have HR6 := Lib.hid r6
      have HO1 := Lib.hid o1
      have HXR := Lib.hid (HRX.out.later hbo)
      have HYR := Lib.hid (HRY.out.later hbo)
      have HSO := Lib.hid (HST.out.later hbo)
      have HBW := Lib.hid (HBR.out.trans (hbo.mono HBR.out.size))
      have HSW : Hid (X + 2 ≤ w1.heap.size) := Lib.hid (Nat.le_trans HSR.out hbo.size)
      have HPG : Hid (X + 2 ≤ PX) := Lib.hid (Nat.le_trans HSR.out hXs)
      clear hbo r6 o1 hXs
      by_cases h0 : CE = 0
      · have hc0 : (CE == 0) = true := by simp [h0]
        have HY := Lib.hid (HYES.out h0)
        clear h0
        obtain ⟨qa, qc, qb, qd, rfl, rfl, -, -⟩ := HO1.out.open
        obtain ⟨z0, z1⟩ := HR6.out.c2
        obtain ⟨ln1, hln1⟩ : ∃ z, s1.data.length = z := ⟨_, rfl⟩
        obtain ⟨ln2, hln2⟩ : ∃ z, s1.snaps.length = z := ⟨_, rfl⟩
        simp only [hln1, hln2] at z0 z1 HO1 HR6 ⊢
        clear hln1 hln2
        go_wp2_with (refine wpList_rec rfl rfl X #[.slice ad nd cd, .slice av nv cv] #[.slice qa ln1 qc, .slice qb ln2 qd] rfl rfl HXR.out rfl (by kernel_rfl) (by simp [Value.oneCell']) ?_; intro w4 r1 r2 r3 r4)
        go_roundw
        case rel => exact ⟨j + 1, _, _, _, _, _, _, by go_num, by omega, HBW.out.grown r4 HBW.out.size (fun q e => by cases e; have := HXS.out; omega), Lib.hid (by have := HSW.out; omega), Lib.hid r1, Lib.hid (HYR.out.grown r4 (fun e => by cases e)), Lib.hid (by rw [← HY.out]; exact HO1.out.keep (fun b hb hj => r3 b (HJF.out b hj).2.1) (Nat.le_of_eq r2.symm))⟩
        case measure => simp [intOf]; omega
      · have hc0 : (CE == 0) = false := by simp [h0]
        have HY := Lib.hid (HNO.out h0)
        clear h0
        go_wp2_with fail
        go_roundw
        case rel => exact ⟨j + 1, _, _, _, _, _, _, by go_num, by omega, HBW.out, HSW, HXR, HYR, Lib.hid (by rw [← HY.out]; exact HSO.out)⟩
        case measure => simp [intOf]; omega
    · have hjN : j = n := by omega
      subst hjN
      have HFE : Hid (foldM s (l.take j) = F) := Lib.hid (by rw [List.take_of_length_le (by rw [HN.out]; omega), HF.out])
      obtain ⟨x0, x1⟩ := HRX.out.c2
      go_wp2_with (refine wpList_rec rfl rfl (X + 1) zeroSt #[.slice ad nd cd, .slice av nv cv] rfl rfl HRY.out rfl (by kernel_rfl) (by simp [Value.oneCell']) ?_; intro w4 r1 r2 r3 r4)
      refine bodyPost_ret (results_c rfl rfl r1 Try.underlying28 rfl (by kernel_rfl)) rfl ?_
      unfold FoldIs
      exact ⟨_, _, rfl, by
        rw [← HFE.out]
        exact (HST.out.keep (fun b hb hj => r3 b (HJF.out b hj).2.2) (Nat.le_of_eq r2.symm)).weak fun b _ hj => (HJF.out b hj).1, HBR.out.grown r4 HBR.out.size (fun q e => by cases e; have := HXS.out; omega)⟩
end Go.Proofs.Ytghglbaflmbeoaa
