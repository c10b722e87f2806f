/- Images: the document's own Fold, the law's After. | Images: states over stores into records; the law's After; what the program's answers are to be. -/
import Derived.Test.YtbpddcmehjgleaaGMf
import Derived.Test.YtbpddcmehjgleaaGMe
namespace Go.Proofs.Ytbpddcmehjgleaa
open Go.RowKit Go.Proofs
set_option linter.unusedVariables false
set_option linter.unusedSimpArgs false
set_option linter.unnecessarySimpa false

/-! ### what a state leans on is no block of states -/
theorem BQ.lessRec {J : Nat → Prop} {w : World} {v : Value} {l : List UInt8} (h : BQ J w v l) {P : Nat} {cs : Array Value} {T : TypeId} (hr : RecAt w P cs T) (hc : ∀ (i : Nat) (u : UInt8), cs[i]? ≠ some (B8 u)) : BQ (fun b => J b ∧ b ≠ P) w v l := by
  obtain ⟨a, cap, hv, hrow, hj⟩ := h
  refine ⟨a, cap, hv, hrow, fun hl x hx => ?_⟩
  obtain ⟨h1, h2⟩ := hj hl x hx
  refine ⟨h1, h2, fun e => ?_⟩
  obtain ⟨u, r, rfl⟩ := List.exists_cons_of_ne_nil hl
  have h0 := hrow.2.2.2 x hx 0 u rfl
  have hsp := World.cell?_spot h0
  have e1 : (x.add 0) = ⟨P, (x.add 0).off, none⟩ := by
    have e2 : (x.add 0).block = x.block := by unfold Addr.add; split <;> rfl
    rw [← e, ← e2]
    rcases hxa : x.add 0 with ⟨b, o, s⟩
    rw [hxa] at hsp
    simp only at hsp
    subst hsp; rfl
  rw [e1] at h0
  unfold RecAt at hr
  simp only [World.cell?, hr] at h0
  exact hc _ u (by simpa using h0)
theorem StA.lessRec {J : Nat → Prop} {w : World} {d v : Value} {s : Sx} (h : StA J w d v s) {P : Nat} {a1 a2 : Option Addr} {n1 n2 c1 c2 : Nat} {T : TypeId} (hr : RecAt w P #[.slice a1 n1 c1, .slice a2 n2 c2] T) : StA (fun b => J b ∧ b ≠ P) w d v s := by
  have hb : ∀ (i : Nat) (u : UInt8), (#[.slice a1 n1 c1, .slice a2 n2 c2] : Array Value)[i]? ≠ some (B8 u) := by
    intro i u e
    match i with
    | 0 => simp [B8] at e
    | 1 => simp [B8] at e
    | i + 2 => simp at e
  refine ⟨h.data.lessRec hr hb, ?_⟩
  obtain ⟨css, a, cap, hv, h1, h3, h2⟩ := h.snaps
  refine ⟨css, a, cap, hv, h1, fun hl x hx => ⟨(h3 hl x hx).1, (h3 hl x hx).2, fun e => ?_⟩, h2.mono fun c t ⟨S, v, q1, q2, q3, q4⟩ => ⟨S, v, q1, q2, q3, q4.lessRec hr hb⟩⟩
  obtain ⟨t, r, hts⟩ := List.exists_cons_of_ne_nil hl
  obtain ⟨c, hc, S, v0, q1, _⟩ := h2.at (i := 0) (b := t) (by rw [hts]; rfl)
  obtain ⟨b, off, ha, hq⟩ := h1.at hc
  rw [hx] at ha
  cases ha
  have h0 := hq 0 (.string S) (by show c.1[0]? = _; rw [q1]; rfl)
  simp only at e
  subst e
  unfold RecAt at hr
  simp only [World.cell?, hr] at h0
  simp only [Nat.zero_mul, Nat.add_zero] at h0
  match off, h0 with
  | 0, h0 => simp at h0
  | 1, h0 => simp at h0
  | o + 2, h0 => simp at h0
def apV (J : Nat → Prop) (s : Sx) (c : Int) : SV := ⟨fun w x => ∃ d v, x = .tuple #[.agg #[d, v], .int .i64 c] ∧ StA J w d v s, fun w w' x ⟨d, v, h1, h2⟩ hb => ⟨d, v, h1, h2.later hb⟩⟩
def tuV (c : Int) : SV := ⟨fun w x => ∃ d v, x = .tuple #[.agg #[d, v], .int .i64 c], fun w w' x h hb => h⟩
def stV (J : Nat → Prop) (s : Sx) : SV := ⟨fun w x => ∃ d v, x = .agg #[d, v] ∧ StA J w d v s, fun w w' x ⟨d, v, h1, h2⟩ hb => ⟨d, v, h1, h2.later hb⟩⟩
def rjV (J : Nat → Prop) (W0 : World) (s : Sx) : SV := ⟨fun w x => ∃ g d v, x = .pointer (some ⟨g, 0, none⟩) ∧ RecAt w g #[d, v] 32 ∧ W0.heap.size ≤ g ∧ StA J w d v s, fun w w' x ⟨g, d, v, h1, h2, h3, h4⟩ hb => ⟨g, d, v, h1, h2.later hb, h3, h4.later hb⟩⟩
theorem foldM_take {s : Sx} {l : List Ev} {j : Nat} {e : Ev} (h : l[j]? = some e) : foldM s (l.take (j + 1)) = stepM (foldM s (l.take j)) e := by
  rw [List.take_add_one, h]
  exact foldM_snoc s (l.take j) e
def FoldIs (J : Nat → Prop) (w : World) (s : Sx) (e : Ending) (w' : World) : Prop := ∃ d v, e = .returned (.agg #[d, v]) ∧ StA J w' d v s ∧ Below w.heap.size w w'
set_option maxRecDepth 20000 in
set_option maxHeartbeats 12800000 in
theorem rfold14_any (d v : Value) (s : Sx) (a : Option Addr) (n cap : Nat) (l : List Ev) (J JE : Nat → Prop) (w : World) (hJ : NewJ J w) (h : StA J w d v s) (hok : StOk s) (hl : QE JE w (.slice a n cap) l) :
    Calls Try.prog 17 #[.agg #[d, v], .slice a n cap] w fun e w' => FoldIs J w (foldM s l) e w' := by
  obtain ⟨a1, c1, a2, c2, rfl, rfl, -, -⟩ := h.open
  obtain ⟨hn, hcap, hcm, hca⟩ := hl.cap
  unfold maxLen at hcm
  obtain ⟨nd, hnd⟩ : ∃ z, s.data.length = z := ⟨_, rfl⟩
  obtain ⟨nv, hnv⟩ : ∃ z, s.snaps.length = z := ⟨_, rfl⟩
  rw [hnd, hnv] at h ⊢
  obtain ⟨X0, X1, B2⟩ := two_recsS w #[.slice a1 nd c1, .slice a2 nv c2] zeroSt 32 32
  obtain ⟨wa, hwa⟩ : ∃ W, ((w.alloc (.cells #[.slice a1 nd c1, .slice a2 nv c2] 32)).alloc (.cells zeroSt 32)) = W := ⟨_, rfl⟩
  rw [hwa] at X0 X1 B2
  obtain ⟨JF, hJF⟩ : ∃ JF : Nat → Prop, (fun b => J b ∧ b ≠ w.heap.size ∧ b ≠ w.heap.size + 1) = JF := ⟨_, rfl⟩
  have HST0 := Lib.hid ((h.weak (J' := JF) fun b hb hj => by subst hJF; exact ⟨hj, by omega, by omega⟩).later B2)
  have HJF : Hid (∀ b, JF b → J b ∧ b ≠ w.heap.size ∧ b ≠ w.heap.size + 1) := Lib.hid (by subst hJF; exact fun b hb => hb)
  have HJN : Hid (∀ b, w.heap.size + 2 ≤ b → JF b) := Lib.hid (by subst hJF; exact fun b hb => ⟨hJ b (by omega), by omega, by omega⟩)
  have HSZ : Hid (w.heap.size + 2 ≤ wa.heap.size) := Lib.hid (by have := X1.lt; omega)
  have HX0 := Lib.hid X0
  have HX1 := Lib.hid X1
  have HB2 := Lib.hid B2
  have HL := Lib.hid hl
  have HN := Lib.hid hn
  have HOK := Lib.hid hok
  obtain ⟨F, hF⟩ : ∃ z, foldM s l = z := ⟨_, rfl⟩
  have HF := Lib.hid hF
  rw [hF]
  clear h X0 X1 B2 hl hn hnd hnv hJF hJ hok hF
  go_enter Try.func17, Try.ntmps17
  go_upto_region 1 with fail
  try rw [hwa]
  clear hwa
  obtain ⟨X, hX⟩ : ∃ X, w.heap.size = X := ⟨_, rfl⟩
  simp only [hX] at HX0 HX1 HJF HJN HSZ ⊢
  have HXS := Lib.hid hX
  clear hX
  have ub0 := Try.underlying32
  go_wp2_with fail
  go_loopw [5] (fun i wr => ∃ (j : Nat) (ad : Option Addr) (nd cd : Nat) (av : Option Addr) (nv cv : Nat), i = .int .i64 j ∧ j ≤ n ∧ Below w.heap.size w wr ∧ Hid (X + 2 ≤ wr.heap.size) ∧ Hid (RecAt wr X #[.slice ad nd cd, .slice av nv cv] 32) ∧ Hid (RecAt wr (X + 1) zeroSt 32) ∧ Hid (StA JF wr (.slice ad nd cd) (.slice av nv cv) (foldM s (l.take j)))) (fun i _ => n - (intOf i).toNat)
  case atStart => exact ⟨0, _, _, _, _, _, _, rfl, by omega, HB2.out, HSZ, HX0, HX1, HST0⟩
  case round =>
    obtain ⟨j, ad, nd, cd, av, nv, cv, rfl, hj, hbr, HSR, HRX, HRY, HST⟩ := hrel
    obtain ⟨wo, hwo⟩ : ∃ W, W = wr := ⟨_, rfl⟩
    subst hwo
    have HBR := Lib.hid hbr
    clear hbr
    by_cases hjn : (j : Int) < n
    · have hjd : decide ((j : Int) < (n : Int)) = true := decide_eq_true hjn
      have HJN2 : Hid (j < n) := Lib.hid (by omega)
      obtain ⟨ev, hev⟩ : ∃ e, l[j]? = some e := ⟨l[j]'(by have := HN.out; omega), List.getElem?_eq_getElem _⟩
      obtain ⟨b1, f1, S, a2, c2, ha, p0, p1, p2, p3, p4, hS, hS2, hrow⟩ := (HL.out.later ev_rel HBR.out).e5 hev
      subst ha
      have hokj := foldM_ok HOK.out (l.take j)
      obtain ⟨sj, hsj⟩ : ∃ z, foldM s (l.take j) = z := ⟨_, rfl⟩
      have HTK := Lib.hid (foldM_take (s := s) hev)
      rw [hsj] at hokj HST HTK
      have hevn : (⟨ev.kind, ev.off, ev.len, ev.data, S.data.toList⟩ : Ev) = ev := by rw [hS]
      obtain ⟨s1, CE, hap⟩ : ∃ s1 CE, applyM sj ev = (s1, CE) := ⟨_, _, rfl⟩
      obtain ⟨dj, vj, HST1, HST2⟩ : ∃ dj vj, Value.slice ad nd cd = dj ∧ Value.slice av nv cv = vj := ⟨_, _, rfl, rfl⟩
      have HAP : Hid (∀ W, Below wo.heap.size wo W → Calls Try.prog 33 #[.agg #[.slice ad nd cd, .slice av nv cv], .agg #[.int .i64 ev.kind, .int .i64 ev.off, .int .i64 ev.len, .slice a2 ev.data.length c2, .string S]] W fun e w' => ∃ d2 v2, e = .returned (.tuple #[.agg #[d2, v2], .int .i64 CE]) ∧ StA JF w' d2 v2 s1 ∧ Below W.heap.size W w') := Lib.hid fun W hb => by
        refine (rapply14_any (.slice ad nd cd) (.slice av nv cv) sj ev.kind ev.off ev.len a2 ev.data.length c2 ev.data S JF W (fun b hb2 => HJN.out b (by have := HSR.out; have := hb.size; omega)) (HST.out.later hb) (hrow.later hb) rfl hS2 (by have := hokj.size; omega) (by have := hokj.many; omega) (fun q hq => by have := hokj.sizes q hq; omega)).mono ?_
        rintro e w' ⟨d2, v2, h1, h2, h3⟩
        rw [hevn, hap] at h1 h2
        exact ⟨d2, v2, h1, h2, h3⟩
      have HE5 : Hid (∀ W, Below wo.heap.size wo W → W.cell? ⟨b1, f1 + j * 5, none⟩ = some (.int .i64 ev.kind) ∧ W.cell? ⟨b1, f1 + j * 5 + 1, none⟩ = some (.int .i64 ev.off) ∧ W.cell? ⟨b1, f1 + j * 5 + 2, none⟩ = some (.int .i64 ev.len) ∧ W.cell? ⟨b1, f1 + j * 5 + 3, none⟩ = some (.slice a2 ev.data.length c2) ∧ W.cell? ⟨b1, f1 + j * 5 + 4, none⟩ = some (.string S)) := Lib.hid fun W hb => by
        refine ⟨?_, ?_, ?_, ?_, ?_⟩
        · rw [hb.cell (World.block_lt_of_cell? _ _ p0)]; exact p0
        · rw [hb.cell (World.block_lt_of_cell? _ _ p1)]; exact p1
        · rw [hb.cell (World.block_lt_of_cell? _ _ p2)]; exact p2
        · rw [hb.cell (World.block_lt_of_cell? _ _ p3)]; exact p3
        · rw [hb.cell (World.block_lt_of_cell? _ _ p4)]; exact p4
      have HYES : Hid (CE = 0 → s1 = foldM s (l.take (j + 1))) := Lib.hid fun h0 => by
        rw [HTK.out]
        by_cases c : checkM sj ev = 0
        · rw [applyM_yes c] at hap; rw [stepM_yes c]; exact (Prod.mk.inj hap).1.symm
        · rw [applyM_no c] at hap; exact absurd ((Prod.mk.inj hap).2.trans h0) c
      have HNO : Hid (CE ≠ 0 → sj = foldM s (l.take (j + 1))) := Lib.hid fun h0 => by
        rw [HTK.out]
        by_cases c : checkM sj ev = 0
        · rw [applyM_yes c] at hap; exact absurd (Prod.mk.inj hap).2.symm h0
        · rw [stepM_no c]
      obtain ⟨K1, hK1⟩ : ∃ z, ev.kind = z := ⟨_, rfl⟩
      obtain ⟨K2, hK2⟩ : ∃ z, ev.off = z := ⟨_, rfl⟩
      obtain ⟨K3, hK3⟩ : ∃ z, ev.len = z := ⟨_, rfl⟩
      obtain ⟨L1, hL1⟩ : ∃ z, ev.data.length = z := ⟨_, rfl⟩
      rw [hK1, hK2, hK3, hL1] at HAP HE5
      clear hK1 hK2 hK3 hL1 hap hevn hS hS2 hrow hev p0 p1 p2 p3 p4 hokj HST1 HST2 HTK
      obtain ⟨x0, x1⟩ := HRX.out.c2
      go_upto_region 4 with fail
      clear x0 x1
      -- REG A4
      refine wp_region_ptabW (L := fun ph => match ph with | 0 => [cV (.agg #[.slice ad nd cd, .slice av nv cv]), cV (.slice (some ⟨b1, f1, none⟩) n cap), cV (.int .i64 (j : Nat)), cV (.pointer (some ⟨b1, f1 + j * 5, none⟩)), cV (.agg #[.int .i64 K1, .int .i64 K2, .int .i64 K3, .slice a2 L1 c2, .string S]), apV JF s1 CE, apV JF s1 CE, stV JF s1, cV (.int .i64 CE), zsV wo, tV, cV (.int .i64 CE)] | _ => [cV (.agg #[.slice ad nd cd, .slice av nv cv]), cV (.slice (some ⟨b1, f1, none⟩) n cap), cV (.int .i64 (j : Nat)), cV (.pointer (some ⟨b1, f1 + j * 5, none⟩)), cV (.agg #[.int .i64 K1, .int .i64 K2, .int .i64 K3, .slice a2 L1 c2, .string S]), tV, tuV CE, tV, cV (.int .i64 CE), rjV JF wo s1, tV, cV (.int .i64 CE)]) (fun _ wq => Below wo.heap.size wo wq) [10] [(0, 0), (0, 0), (0, 0), (0, 0), (0, 0), (0, 0), (0, 0), (0, 0), (0, 1), (0, 0), (0, 1), (0, 1)] [[(2, none)], [(1, none)], [(5, none)], [(16, some 1), (17, some 2)], [(18, some 3)], [(15, some 0), (19, some 4)], [(20, some 5)], [(14, some 6)], [(14, some 6)], [], [(6, some 9), (21, some 7)], [(22, some 8)]] 12 1 27 (by kernel_rfl) rfl rfl rfl (by kernel_rfl) (by kernel_rfl) (by decide) (by kernel_rfl) ?_ ?_ ?_ ?_ ?_
      · exact fun ph w1 w2 h hb => h.trans (hb.mono h.size)
      · exact (Below.refl _ _)
      · show ∀ i, i < 12 → _
        iterate 12 (refine fls ?_ ?_)
        · exact fl0
        · intro hne lo hi ph hran hp1 hp2 a w1 hJ hsz hs      -- 0: slot 15
          obtain ⟨rfl, rfl⟩ : 0 = lo ∧ 0 = hi := Prod.mk.inj (Option.some.inj hran)
          obtain rfl : ph = 0 := by omega
          obtain ⟨h0, _⟩ := hs
          have h0 : a.tmps.getD 2 undef = .pointer (some ⟨X, 0, none⟩) := h0
          obtain ⟨x0, x1⟩ := (HRX.out.later (show Below wo.heap.size wo w1 from hJ)).c2
          refine op_run rfl rfl (v := .agg #[.slice ad nd cd, .slice av nv cv]) (w' := w1) ?_ rfl (Below.refl _ _)
          simp [execOp, Act.eval, h0, x0, x1, go_sem]
        · intro hne lo hi ph hran hp1 hp2 a w1 hJ hsz hs      -- 1: slot 16
          obtain ⟨rfl, rfl⟩ : 0 = lo ∧ 0 = hi := Prod.mk.inj (Option.some.inj hran)
          obtain rfl : ph = 0 := by omega
          obtain ⟨h0, _⟩ := hs
          have h0 : a.tmps.getD 1 undef = .slice (some ⟨b1, f1, none⟩) n cap := h0
          refine op_run rfl rfl (v := .slice (some ⟨b1, f1, none⟩) n cap) (w' := w1) ?_ rfl (Below.refl _ _)
          simp [execOp, Act.eval, h0, go_sem]
        · intro hne lo hi ph hran hp1 hp2 a w1 hJ hsz hs      -- 2: slot 17
          obtain ⟨rfl, rfl⟩ : 0 = lo ∧ 0 = hi := Prod.mk.inj (Option.some.inj hran)
          obtain rfl : ph = 0 := by omega
          obtain ⟨h0, _⟩ := hs
          have h0 : a.tmps.getD 5 undef = .int .i64 (j : Nat) := h0
          refine op_run rfl rfl (v := .int .i64 (j : Nat)) (w' := w1) ?_ rfl (Below.refl _ _)
          simp [execOp, Act.eval, h0, go_sem]
        · intro hne lo hi ph hran hp1 hp2 a w1 hJ hsz hs      -- 3: slot 18
          obtain ⟨rfl, rfl⟩ : 0 = lo ∧ 0 = hi := Prod.mk.inj (Option.some.inj hran)
          obtain rfl : ph = 0 := by omega
          obtain ⟨h0, h1, _⟩ := hs
          have h0 : a.tmps.getD 16 undef = .slice (some ⟨b1, f1, none⟩) n cap := h0
          have h1 : a.tmps.getD 17 undef = .int .i64 (j : Nat) := h1
          have k1 := HJN2.out
          refine op_run rfl rfl (v := .pointer (some ⟨b1, f1 + j * 5, none⟩)) (w' := w1) ?_ rfl (Below.refl _ _)
          simp [execOp, Act.eval, h0, h1, k1, go_sem]
        · intro hne lo hi ph hran hp1 hp2 a w1 hJ hsz hs      -- 4: slot 19
          obtain ⟨rfl, rfl⟩ : 0 = lo ∧ 0 = hi := Prod.mk.inj (Option.some.inj hran)
          obtain rfl : ph = 0 := by omega
          obtain ⟨h0, _⟩ := hs
          have h0 : a.tmps.getD 18 undef = .pointer (some ⟨b1, f1 + j * 5, none⟩) := h0
          obtain ⟨k0, k1, k2, k3, k4⟩ := HE5.out w1 (show Below wo.heap.size wo w1 from hJ)
          refine op_run rfl rfl (v := .agg #[.int .i64 K1, .int .i64 K2, .int .i64 K3, .slice a2 L1 c2, .string S]) (w' := w1) ?_ rfl (Below.refl _ _)
          simp [execOp, Act.eval, h0, k0, k1, k2, k3, k4, go_sem]
        · intro hne lo hi ph hran hp1 hp2 a w1 hJ hsz hs      -- 5: slot 20
          obtain ⟨rfl, rfl⟩ : 0 = lo ∧ 0 = hi := Prod.mk.inj (Option.some.inj hran)
          obtain rfl : ph = 0 := by omega
          obtain ⟨h0, h1, _⟩ := hs
          have h0 : a.tmps.getD 15 undef = .agg #[.slice ad nd cd, .slice av nv cv] := h0
          have h1 : a.tmps.getD 19 undef = .agg #[.int .i64 K1, .int .i64 K2, .int .i64 K3, .slice a2 L1 c2, .string S] := h1
          refine op_call rfl rfl (f := 33) (args := #[.agg #[.slice ad nd cd, .slice av nv cv], .agg #[.int .i64 K1, .int .i64 K2, .int .i64 K3, .slice a2 L1 c2, .string S]]) (by simp [execOp, Act.eval, resolve, h0, h1, go_sem]) ?_
          exact (HAP.out w1 (show Below wo.heap.size wo w1 from hJ)).mono fun e w' he => by
            obtain ⟨d2, v2, h1, h2, h3⟩ := he
            exact ⟨_, h1, ⟨d2, v2, rfl, h2⟩, h3⟩
        · intro hne lo hi ph hran hp1 hp2 a w1 hJ hsz hs      -- 6: slot 14
          obtain ⟨rfl, rfl⟩ : 0 = lo ∧ 0 = hi := Prod.mk.inj (Option.some.inj hran)
          obtain rfl : ph = 0 := by omega
          obtain ⟨h0, _⟩ := hs
          have m0 : (apV JF s1 CE).p w1 (a.tmps.getD 20 undef) := h0
          obtain ⟨d2, v2, e20, hst⟩ := (show ∃ d v, a.tmps.getD 20 undef = .tuple #[.agg #[d, v], .int .i64 CE] ∧ StA JF w1 d v s1 from m0)
          refine op_run rfl rfl (v := .tuple #[.agg #[d2, v2], .int .i64 CE]) (w' := w1) ?_ ⟨d2, v2, rfl, hst⟩ (Below.refl _ _)
          simp [execOp, Act.eval, e20, go_sem]
        · intro hne lo hi ph hran hp1 hp2 a w1 hJ hsz hs      -- 7: slot 21
          obtain ⟨rfl, rfl⟩ : 0 = lo ∧ 0 = hi := Prod.mk.inj (Option.some.inj hran)
          obtain rfl : ph = 0 := by omega
          obtain ⟨h0, _⟩ := hs
          
          obtain ⟨d2, v2, e14, hst⟩ := (show ∃ d v, a.tmps.getD 14 undef = .tuple #[.agg #[d, v], .int .i64 CE] ∧ StA JF w1 d v s1 from h0)
          refine op_run rfl rfl (v := .agg #[d2, v2]) (w' := w1) ?_ ⟨d2, v2, rfl, hst⟩ (Below.refl _ _)
          simp [execOp, Act.eval, e14, go_sem]
        · intro hne lo hi ph hran hp1 hp2 a w1 hJ hsz hs      -- 8: slot 22
          obtain ⟨rfl, rfl⟩ : 0 = lo ∧ 1 = hi := Prod.mk.inj (Option.some.inj hran)
          rcases (by omega : ph = 0 ∨ ph = 1) with rfl | rfl
          · obtain ⟨h0, _⟩ := hs
            
            obtain ⟨d2, v2, e14⟩ : ∃ d v, a.tmps.getD 14 undef = .tuple #[.agg #[d, v], .int .i64 CE] := by
              first
              | exact h0
              | exact (let ⟨d, v, q, _⟩ := (show ∃ d v, a.tmps.getD 14 undef = .tuple #[.agg #[d, v], .int .i64 CE] ∧ StA JF w1 d v s1 from h0); ⟨d, v, q⟩)
            refine op_run rfl rfl (v := .int .i64 CE) (w' := w1) ?_ rfl (Below.refl _ _)
            simp [execOp, Act.eval, e14, go_sem]
          · obtain ⟨h0, _⟩ := hs
            
            obtain ⟨d2, v2, e14⟩ : ∃ d v, a.tmps.getD 14 undef = .tuple #[.agg #[d, v], .int .i64 CE] := by
              first
              | exact h0
              | exact (let ⟨d, v, q, _⟩ := (show ∃ d v, a.tmps.getD 14 undef = .tuple #[.agg #[d, v], .int .i64 CE] ∧ StA JF w1 d v s1 from h0); ⟨d, v, q⟩)
            refine op_run rfl rfl (v := .int .i64 CE) (w' := w1) ?_ rfl (Below.refl _ _)
            simp [execOp, Act.eval, e14, go_sem]
        · intro hne lo hi ph hran hp1 hp2 a w1 hJ hsz hs      -- 9: slot 6
          obtain ⟨rfl, rfl⟩ : 0 = lo ∧ 0 = hi := Prod.mk.inj (Option.some.inj hran)
          obtain rfl : ph = 0 := by omega
          refine op_run rfl rfl (v := .pointer (some ⟨w1.heap.size, 0, none⟩)) (w' := w1.alloc (.cells zeroSt 32)) ?_ ⟨w1.heap.size, rfl, RecAt.new w1 _ _, (show Below wo.heap.size wo w1 from hJ).size⟩ ((Below.refl _ _).alloc (Nat.le_refl _) _)
          simp [execOp, Act.eval, go_sem, ub0, zeroSt]
        · intro hne lo hi ph hran hp1 hp2 a w1 hJ hsz hs      -- 10: slot None
          exact absurd (by decide) hne
        · intro hne lo hi ph hran hp1 hp2 a w1 hJ hsz hs      -- 11: slot 7
          obtain ⟨rfl, rfl⟩ : 0 = lo ∧ 1 = hi := Prod.mk.inj (Option.some.inj hran)
          rcases (by omega : ph = 0 ∨ ph = 1) with rfl | rfl
          · obtain ⟨h0, _⟩ := hs
            have h0 : a.tmps.getD 22 undef = .int .i64 CE := h0
            refine op_run rfl rfl (v := .int .i64 CE) (w' := w1) ?_ rfl (Below.refl _ _)
            simp [execOp, Act.eval, h0, go_sem]
          · obtain ⟨h0, _⟩ := hs
            have h0 : a.tmps.getD 22 undef = .int .i64 CE := h0
            refine op_run rfl rfl (v := .int .i64 CE) (w' := w1) ?_ rfl (Below.refl _ _)
            simp [execOp, Act.eval, h0, go_sem]
      · show ∀ ph, ph < 1 → _
        iterate 1 (refine fls ?_ ?_)
        · exact fl0
        · intro i hi a w1 hJ hsz hs      -- heavy 0: op 10 slot None
          obtain rfl : 10 = i := Option.some.inj hi
          obtain ⟨h0, h1, _⟩ := hs
          have m0 : (zsV wo).p w1 (a.tmps.getD 6 undef) := h0
          have m1 : (stV JF s1).p w1 (a.tmps.getD 21 undef) := h1
          obtain ⟨PX, hvx, hX, hXs⟩ := (show ∃ g, a.tmps.getD 6 undef = .pointer (some ⟨g, 0, none⟩) ∧ RecAt w1 g zeroSt 32 ∧ wo.heap.size ≤ g from m0)
          obtain ⟨d1, v1, e21, md⟩ := (show ∃ d v, a.tmps.getD 21 undef = .agg #[d, v] ∧ StA JF w1 d v s1 from m1)
          have hone : (#[d1, v1] : Array Value).all (·.oneCell') = true := by
            obtain ⟨qa, qb, qc, qd, rfl, rfl, _, _⟩ := md.open
            simp [Value.oneCell']
          refine hv_recW rfl rfl (x := PX) (p := .tmp 6) (v := .tmp 21) (cs := zeroSt) (vs := #[d1, v1]) rfl hvx e21 hX rfl (by kernel_rfl) hone (fun w' => trivial) ?_
          intro w' r1 r2 r3 r4
          have hb : Below wo.heap.size wo w' := (show Below wo.heap.size wo w1 from hJ).grown r4 (show Below wo.heap.size wo w1 from hJ).size (fun q e => by cases e; exact hXs)
          have o1 : StA JF w' d1 v1 s1 := ((md.lessRec hX).keep (fun b hb2 hj => r3 b hj.2) (Nat.le_of_eq r2.symm)).weak fun b _ hj => hj.1
          exact ⟨hb, CalmW.all ⟨.inr fun _ _ h => h, .inr fun _ _ h => h, .inr fun _ _ h => h, .inr fun _ _ h => h, .inr fun _ _ h => h, .inr fun _ _ _ => trivial, .inr fun v hh h => (let ⟨d, v2, q, _⟩ := h; ⟨d, v2, q⟩), .inr fun _ _ _ => trivial, .inr fun _ _ h => h, .inr fun v hh _ => ⟨PX, d1, v1, (hh _ _ rfl rfl).trans hvx, r1, hXs, o1⟩, .inl rfl, .inr fun _ _ h => h, trivial⟩⟩
      intro f w1 hJ hv
      have e6 : (rjV JF wo s1).p w1 (f 6) := hv 9 _ 6 rfl rfl
      have e7 : f 7 = .int .i64 CE := hv 11 _ 7 rfl rfl
      have hbo : Below wo.heap.size wo w1 := hJ
      clear hv
      try simp only [Exit.then]
      simp only [putAll, List.foldl_cons, List.foldl_nil, Option.getD_some, Act.put, List.setIfInBounds_toArray, List.set_cons_succ, List.set_cons_zero]
      obtain ⟨PX, d1, v1, e6, r6, hXs, o1⟩ := e6
      rw [e6, e7]
      clear hJ e6 e7
      -- END A4
      have HBO := Lib.hid hbo
      have HR6 := Lib.hid r6
      have HO1 := Lib.hid o1
      have HXR := Lib.hid (HRX.out.later hbo)
      have HYR := Lib.hid (HRY.out.later hbo)
      have HSO := Lib.hid (HST.out.later hbo)
      have HBW := Lib.hid (HBR.out.trans (hbo.mono HBR.out.size))
      have HSW : Hid (X + 2 ≤ w1.heap.size) := Lib.hid (Nat.le_trans HSR.out hbo.size)
      have HPG : Hid (X + 2 ≤ PX) := Lib.hid (Nat.le_trans HSR.out hXs)
      clear hbo r6 o1 hXs
      by_cases h0 : CE = 0
      · have hc0 : (CE == 0) = true := by simp [h0]
        have HY := Lib.hid (HYES.out h0)
        clear h0
        obtain ⟨qa, qc, qb, qd, rfl, rfl, -, -⟩ := HO1.out.open
        obtain ⟨z0, z1⟩ := HR6.out.c2
        obtain ⟨ln1, hln1⟩ : ∃ z, s1.data.length = z := ⟨_, rfl⟩
        obtain ⟨ln2, hln2⟩ : ∃ z, s1.snaps.length = z := ⟨_, rfl⟩
        simp only [hln1, hln2] at z0 z1 HO1 HR6 ⊢
        clear hln1 hln2
        go_wp2_with (refine wpList_rec rfl rfl X #[.slice ad nd cd, .slice av nv cv] #[.slice qa ln1 qc, .slice qb ln2 qd] rfl rfl HXR.out rfl (by kernel_rfl) (by simp [Value.oneCell']) ?_; intro w4 r1 r2 r3 r4)
        go_roundw
        case rel => exact ⟨j + 1, _, _, _, _, _, _, by go_num, by omega, HBW.out.grown r4 HBW.out.size (fun q e => by cases e; have := HXS.out; omega), Lib.hid (by have := HSW.out; omega), Lib.hid r1, Lib.hid (HYR.out.grown r4 (fun e => by cases e)), Lib.hid (by rw [← HY.out]; exact HO1.out.keep (fun b hb hj => r3 b (HJF.out b hj).2.1) (Nat.le_of_eq r2.symm))⟩
        case measure => simp [intOf]; omega
      · have hc0 : (CE == 0) = false := by simp [h0]
        have HY := Lib.hid (HNO.out h0)
        clear h0
        go_wp2_with fail
        go_roundw
        case rel => exact ⟨j + 1, _, _, _, _, _, _, by go_num, by omega, HBW.out, HSW, HXR, HYR, Lib.hid (by rw [← HY.out]; exact HSO.out)⟩
        case measure => simp [intOf]; omega
    · have hjN : j = n := by omega
      subst hjN
      have HFE : Hid (foldM s (l.take j) = F) := Lib.hid (by rw [List.take_of_length_le (by rw [HN.out]; omega), HF.out])
      obtain ⟨x0, x1⟩ := HRX.out.c2
      go_wp2_with (refine wpList_rec rfl rfl (X + 1) zeroSt #[.slice ad nd cd, .slice av nv cv] rfl rfl HRY.out rfl (by kernel_rfl) (by simp [Value.oneCell']) ?_; intro w4 r1 r2 r3 r4)
      refine bodyPost_ret (results_c rfl rfl r1 Try.underlying32 rfl (by kernel_rfl)) rfl ?_
      unfold FoldIs
      exact ⟨_, _, rfl, by
        rw [← HFE.out]
        exact (HST.out.keep (fun b hb hj => r3 b (HJF.out b hj).2.2) (Nat.le_of_eq r2.symm)).weak fun b _ hj => (HJF.out b hj).1, HBR.out.grown r4 HBR.out.size (fun q e => by cases e; have := HXS.out; omega)⟩
end Go.Proofs.Ytbpddcmehjgleaa
namespace Go.Proofs.Ytbpddcmehjgleaa
open Go.RowKit Go.Proofs
set_option linter.unusedVariables false
set_option linter.unusedSimpArgs false
set_option linter.unnecessarySimpa false

/-- A record of states is written whole: all other states stay. -/
theorem StA.over {J : Nat → Prop} {w w' : World} {d v : Value} {s : Sx} (h : StA J w d v s) {P : Nat} {a1 a2 : Option Addr} {n1 n2 c1 c2 : Nat} {T : TypeId} (hr : RecAt w P #[.slice a1 n1 c1, .slice a2 n2 c2] T) (r3 : ∀ b, b ≠ P → w'.heap[b]? = w.heap[b]?) (r2 : w'.heap.size = w.heap.size) : StA J w' d v s :=
  ((h.lessRec hr).keep (fun b hb hj => r3 b hj.2) (Nat.le_of_eq r2.symm)).weak fun b _ hj => hj.1
theorem StA.all {J : Nat → Prop} {w : World} {d v : Value} {s : Sx} (h : StA J w d v s) : StA allJ w d v s := h.weak fun _ _ _ => trivial
theorem StOk.may {s : Sx} (h : StOk s) : MayS s := ⟨by have := h.size; omega, by have := h.many; omega, fun o ho => ⟨by have := h.sizes o ho; omega, by have := nameOk_len (h.names o ho); omega⟩⟩
/-- The program's own Apply: new memory. -/
def newU (w w' : World) : Nat → Prop := fun b => w.heap.size ≤ b ∧ ∀ i, w'.frozen? ⟨b, i, none⟩ = false
theorem newU_B {w w' : World} (b : Nat) (h : newU w w' b) : newB w b := h.1
def PApplyIs (w : World) (s : Sx) (ev : Ev) (e : Ending) (w' : World) : Prop := ∃ d v, e = .returned (.tuple #[.agg #[d, v], .int .i64 (applyM s ev).2]) ∧ StA (newU w w') w' d v (applyM s ev).1 ∧ Below w.heap.size w w'

set_option maxRecDepth 20000 in
set_option maxHeartbeats 6400000 in
theorem after14_any (size : Int) (a : Option Addr) (n cap : Nat) (l : List Ev) (J JE : Nat → Prop) (w : World) (hJ : NewJ J w) (hl : QE JE w (.slice a n cap) l) :
    Calls Try.prog 16 #[.int .i64 size, .slice a n cap] w fun e w' => FoldIs J w (foldM (newM size) l) e w' := by
  have HX0 := Lib.hid (RecAt.new w zeroSt 32)
  have HB0 := Lib.hid ((Below.refl w.heap.size w).alloc (Nat.le_refl _) (.cells zeroSt 32))
  obtain ⟨w1, hw1⟩ : ∃ W, w.alloc (.cells zeroSt 32) = W := ⟨_, rfl⟩
  rw [hw1] at HX0 HB0
  have HL := Lib.hid (hl.later ev_rel HB0.out)
  have HJ := Lib.hid hJ
  clear hl hJ
  go_enter Try.func16, Try.ntmps16
  go_upto_region 1 with fail
  try rw [hw1]
  clear hw1
  obtain ⟨X, hX⟩ : ∃ X, w.heap.size = X := ⟨_, rfl⟩
  simp only [hX] at HX0 ⊢
  have HXS := Lib.hid hX
  clear hX
  go_wp2_with fail
  refine (rnew14_any size J w1 (HJ.out.later HB0.out.size)).mono ?_
  rintro e w2 ⟨d2, v2, rfl, hs2, b2⟩
  have HX2 := Lib.hid (HX0.out.later b2)
  have HB2 := Lib.hid (HB0.out.trans (b2.mono HB0.out.size))
  have HL2 := Lib.hid (HL.out.later ev_rel b2)
  have HS2 := Lib.hid hs2
  clear b2 hs2
  go_wp2_with fail
  refine (rfold14_any d2 v2 (newM size) a n cap l J JE w2 (HJ.out.later HB2.out.size) HS2.out (newM_ok size) HL2.out).mono ?_
  rintro e w3 ⟨d3, v3, rfl, hs3, b3⟩
  have HX3 := Lib.hid (HX2.out.later b3)
  have HB3 := Lib.hid (HB2.out.trans (b3.mono HB2.out.size))
  have HS3 := Lib.hid hs3
  clear b3 hs3
  obtain ⟨qa, qc, qb, qd, rfl, rfl, -, -⟩ := HS3.out.open
  obtain ⟨S, hS⟩ : ∃ z, foldM (newM size) l = z := ⟨_, rfl⟩
  rw [hS] at HS3 ⊢
  have HSE := Lib.hid hS
  clear hS
  obtain ⟨L1, hL1⟩ : ∃ z, S.data.length = z := ⟨_, rfl⟩
  obtain ⟨L2, hL2⟩ : ∃ z, S.snaps.length = z := ⟨_, rfl⟩
  simp only [hL1, hL2] at HS3 ⊢
  clear hL1 hL2
  go_wp2_with (refine wpList_rec rfl rfl X zeroSt #[.slice qa L1 qc, .slice qb L2 qd] rfl rfl HX3.out rfl (by kernel_rfl) (by simp [Value.oneCell']) ?_; intro w4 r1 r2 r3 r4)
  refine bodyPost_ret (results_c rfl rfl r1 Try.underlying32 rfl (by kernel_rfl)) rfl ?_
  exact ⟨_, _, rfl, by rw [HSE.out]; exact HS3.out.over HX3.out r3 r2, HB3.out.grown r4 HB3.out.size (fun q e => by cases e; have := HXS.out; omega)⟩

/-! ### a state in a block of its own -/
theorem StA.shape {J : Nat → Prop} {w : World} {d v : Value} {s : Sx} (h : StA J w d v s) : ∃ a1 n1 c1 a2 n2 c2, d = .slice a1 n1 c1 ∧ v = .slice a2 n2 c2 := by
  obtain ⟨a1, c1, a2, c2, h1, h2, -, -⟩ := h.open
  exact ⟨a1, _, c1, a2, _, c2, h1, h2⟩
def SAt (J : Nat → Prop) (w : World) (P : Nat) (s : Sx) : Prop := ∃ a1 n1 c1 a2 n2 c2, RecAt w P #[.slice a1 n1 c1, .slice a2 n2 c2] tSt ∧ StA J w (.slice a1 n1 c1) (.slice a2 n2 c2) s
theorem SAt.later {J : Nat → Prop} {w w' : World} {P : Nat} {s : Sx} (h : SAt J w P s) (hb : Below w.heap.size w w') : SAt J w' P s := by
  obtain ⟨a1, n1, c1, a2, n2, c2, h1, h2⟩ := h
  exact ⟨a1, n1, c1, a2, n2, c2, h1.later hb, h2.later hb⟩
theorem SAt.weak {J J' : Nat → Prop} {w : World} {P : Nat} {s : Sx} (h : SAt J w P s) (hj : ∀ b, b < w.heap.size → J b → J' b) : SAt J' w P s := by
  obtain ⟨a1, n1, c1, a2, n2, c2, h1, h2⟩ := h
  exact ⟨a1, n1, c1, a2, n2, c2, h1, h2.weak hj⟩
theorem SAt.lt {J : Nat → Prop} {w : World} {P : Nat} {s : Sx} (h : SAt J w P s) : P < w.heap.size := by
  obtain ⟨a1, n1, c1, a2, n2, c2, h1, h2⟩ := h
  exact h1.lt
theorem below_st (w : World) (cs : Array Value) : Below w.heap.size w (w.alloc (.cells cs tSt)) := (Below.refl _ _).alloc (Nat.le_refl _) _
theorem SAt.new {J : Nat → Prop} {w : World} {a1 a2 : Option Addr} {n1 c1 n2 c2 : Nat} {s : Sx} (h : StA J w (.slice a1 n1 c1) (.slice a2 n2 c2) s) : SAt J (w.alloc (.cells #[.slice a1 n1 c1, .slice a2 n2 c2] tSt)) w.heap.size s :=
  ⟨a1, n1, c1, a2, n2, c2, RecAt.new w _ _, h.later (below_st w _)⟩
/-- Another record of states is written whole. -/
theorem SAt.over {J J' : Nat → Prop} {w w' : World} {P Q : Nat} {s t : Sx} (h : SAt J w P s) (hq : SAt J' w Q t) (hne : P ≠ Q) (r3 : ∀ b, b ≠ Q → w'.heap[b]? = w.heap[b]?) (r2 : w'.heap.size = w.heap.size) : SAt J w' P s := by
  obtain ⟨a1, n1, c1, a2, n2, c2, h1, h2⟩ := h
  obtain ⟨b1, m1, e1, b2, m2, e2, q1, q2⟩ := hq
  exact ⟨a1, n1, c1, a2, n2, c2, by unfold RecAt at *; rw [r3 P hne]; exact h1, h2.over q1 r3 r2⟩
section
variable {ops : Array Oper} {rest : List Oper} {o : Oper} {a : Act} {Q : Exit → Act → World → Prop}
/-- 'append(s, t)' of one record, in the block just laid; where the row lies behind it. -/
theorem wp_nonL {α : Type} {sz : Nat} {tE tS : TypeId} {E : Rel α} {J : Nat → Prop} (hR : (rawT sz tE tS).Ok) (hE : RelOk E) {w0 : World} (hgd : o.guard = none) (s x : Operand) {cs : Array Value} (ho : o.op = .call { callee := .builtin .append, args := #[s, x], argTypes := #[tS, tS] })
    (v : Value) (ts : List α) (hs : a.eval s = v) (W0 : World) (hown : NOwn J sz tE tS E W0 w0 v ts) (t : α) (ht : E (lessJ J v) w0 cs.toList t) (hl : cs.toList.length = sz) (h1 : ∀ u ∈ cs.toList, u.oneCell' = true) (hx : a.eval x = .slice (some ⟨w0.heap.size, 0, none⟩) 1 1) (hlen : ts.length + 1 ≤ 1000000)
    (h : ∀ v' w', NOwn J sz tE tS E W0 w' v' (ts ++ [t]) → (w0.alloc (.cells cs tE)).grownBy w' v.ownBlock → (v'.ownBlock = v.ownBlock ∨ v'.ownBlock = some (w0.heap.size + 1)) → wpList Try.prog ops Q rest (a.put o.dst v') w') :
    wpList Try.prog ops Q (o :: rest) a (w0.alloc (.cells cs tE)) := by
  obtain ⟨css, g1, g2⟩ := hown
  refine wp_gone hR hgd s x ho rfl v css hs W0 g1 (⟨cs.toList, hl, h1⟩ : Raw sz) trivial rfl hx (by rw [g2.1]; exact hlen) fun v' w' o2 gr hat => h v' w' ⟨_, o2, ?_⟩ gr hat
  have hba : Below w0.heap.size w0 (w0.alloc (.cells cs tE)) := (Below.refl _ _).alloc (Nat.le_refl _) _
  have key : ∀ c u, E (lessJ J v) w0 c u → E (lessJ J v') w' c u := fun c u hc => lean_grown hE (hE.later hc hba) gr hat (by simp)
  exact (g2.mono fun c u hc => key _ _ hc).append (Both.one (key _ _ ht))
end
theorem NOwn.keptN {α : Type} {sz : Nat} {tE tS : TypeId} {E : Rel α} {J : Nat → Prop} (hE : RelOk E) {W0 w w' : World} {v : Value} {ts : List α} {g : Nat} (h : NOwn J sz tE tS E W0 w v ts) (hg : w.grownBy w' (some g)) (hge : W0.heap.size ≤ g) (hne : v.ownBlock ≠ some g) (hJ : ∀ b, J b → b ≠ g) : NOwn J sz tE tS E W0 w' v ts := by
  obtain ⟨css, h1, h2⟩ := h
  exact ⟨css, h1.keptBy hg (.inr hne) (fun k e => by cases e; exact hge), h2.mono fun c t h => hE.keep h (fun b hb hj => hg.block b hb (fun e => by cases e; exact hJ _ hj.1 rfl)) hg.size⟩
end Go.Proofs.Ytbpddcmehjgleaa
