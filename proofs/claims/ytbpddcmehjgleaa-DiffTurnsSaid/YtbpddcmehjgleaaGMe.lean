/- Images: states and rows of events that come in; states that aren't long. | Images: the document's own Apply. | Images: the document's own Apply of a Write. -/
import Derived.Test.YtbpddcmehjgleaaGMd
import Derived.Test.YtbpddcmehjgleaaEvE
import Derived.Test.YtbpddcmehjgleaaFsh
import Derived.Test.YtbpddcmehjgleaaPhW
import Derived.Laws.CopyOwn
import Derived.Deep.RegionLaw
namespace Go.Proofs.Ytbpddcmehjgleaa
open Go.RowKit Go.Proofs
set_option linter.unusedVariables false
set_option linter.unusedSimpArgs false
set_option linter.unnecessarySimpa false

def OdE (w : World) (cs : List Value) (o : Od) : Prop := ∃ S a c, cs = [.string S, .slice a o.data.length c] ∧ S.data.toList = o.name ∧ S.size ≤ 9223372036854775807 ∧ Row w a c o.data
theorem opens_od {w : World} : Opens w 38 (OdE w) :=
  Opens.fields Try.underlying38 (by kernel_rfl : Try.prog.cellsOf 38 = 2) fun cs hl hf => by
    obtain ⟨s, hs, hsl⟩ := hf 0 _ rfl _ _ (Opens.str Try.underlying9)
    obtain ⟨d, a, c, hd, hr⟩ := hf 1 _ rfl _ _ (Opens.bytes (w := w) Try.underlying22 Try.underlying5 (by kernel_rfl))
    refine ⟨⟨s, d⟩, ⟨s.toArray⟩, a, c, ?_, by simp, by unfold maxLen at hsl; simpa [ByteArray.size] using hsl, hr⟩
    match cs, hl with
    | [x, y], _ =>
      have h2 : Try.prog.cellsOf 22 = 1 := by kernel_rfl
      have h3 : Try.prog.cellsOf 9 = 1 := by kernel_rfl
      simp [h3] at hs
      simp [h2] at hd
      simp [hd, hs]
theorem OdE.rel {w : World} {cs : List Value} {o : Od} (h : OdE w cs o) : OdR allJ w cs o ∧ ∀ u ∈ cs, u.oneCell' = true := by
  obtain ⟨S, a, c, rfl, h2, h3, h4⟩ := h
  refine ⟨⟨S, _, rfl, h2, h3, BQ.of_row h4⟩, fun u hu => ?_⟩
  simp only [List.mem_cons, List.not_mem_nil, or_false] at hu
  rcases hu with rfl | rfl <;> rfl
theorem EvE.rel {w : World} {cs : List Value} {e : Ev} (h : EvE w cs e) : EvL allJ w cs e ∧ ∀ u ∈ cs, u.oneCell' = true := by
  obtain ⟨a, c, S, rfl, h2, h3, h4⟩ := h
  refine ⟨⟨_, S, rfl, h2, h3, BQ.of_row h4⟩, fun u hu => ?_⟩
  simp only [List.mem_cons, List.not_mem_nil, or_false] at hu
  rcases hu with rfl | rfl | rfl | rfl | rfl <;> rfl
/-- A row of events that came in. -/
theorem RowE.qe {w : World} {a : Option Addr} {cap n : Nat} {l : List Ev} (h : RowE w 5 (EvE w) a cap l) (hn : l.length = n) : QE allJ w (.slice a n cap) l := by
  subst hn
  exact QRow.of_rowE h (by decide) fun cs t ht => ht.rel
/-- A state that came in. -/
def StE (w : World) (cs : List Value) (s : Sx) : Prop := ∃ d v, cs = [d, v] ∧ StA allJ w d v s
theorem opens_st {w : World} : Opens w 32 (StE w) :=
  Opens.fields Try.underlying32 (by kernel_rfl : Try.prog.cellsOf 32 = 2) fun cs hl hf => by
    obtain ⟨d, a, c, hd, hr⟩ := hf 0 _ rfl _ _ (Opens.bytes (w := w) Try.underlying22 Try.underlying5 (by kernel_rfl))
    obtain ⟨l, a2, c2, hl2, hr2⟩ := hf 1 _ rfl _ _ (Opens.slice (w := w) (sz := 2) Try.underlying30 (by kernel_rfl) (opens_od (w := w)))
    refine ⟨⟨d, l⟩, _, _, ?_, ⟨BQ.of_row hr, QRow.of_rowE hr2 (by decide) fun cs t ht => ht.rel⟩⟩
    match cs, hl with
    | [x, y], _ =>
      have h2 : Try.prog.cellsOf 22 = 1 := by kernel_rfl
      have h3 : Try.prog.cellsOf 30 = 1 := by kernel_rfl
      simp [h2] at hd
      simp [h3] at hl2
      simp [hd, hl2]
theorem StE.open {w : World} {cs : Array Value} {s : Sx} (h : StE w cs.toList s) : ∃ d v, cs = #[d, v] ∧ StA allJ w d v s := by
  obtain ⟨d, v, h1, h2⟩ := h
  exact ⟨d, v, by rw [← Array.toArray_toList (xs := cs), h1], h2⟩
/-! ### not long -/
def MayS (s : Sx) : Prop := s.data.length ≤ 600 ∧ s.snaps.length ≤ 12 ∧ ∀ o ∈ s.snaps, o.data.length ≤ 600 ∧ o.name.length ≤ 40
def MayIs (w : World) (s : Sx) (e : Ending) (w' : World) : Prop := ∃ B, e = .returned (.bool B) ∧ (B = true → MayS s) ∧ Below w.heap.size w w'
end Go.Proofs.Ytbpddcmehjgleaa
namespace Go.Proofs.Ytbpddcmehjgleaa
open Go.RowKit Go.Proofs
set_option linter.unusedVariables false
set_option linter.unusedSimpArgs false
set_option linter.unnecessarySimpa false

/-! ### marks of region 4 -/
def ebV (W0 : World) : SV := ⟨fun w x => ∃ g, x = .slice (some ⟨g, 0, none⟩) 0 0 ∧ Own W0 w x [], fun w w' x ⟨g, h1, h2⟩ hb => ⟨g, h1, h2.later hb⟩⟩
def obV (W0 : World) (l : List UInt8) : SV := ⟨fun w x => Own W0 w x l, fun w w' x h hb => h.later hb⟩
def eoV (W0 : World) : SV := ⟨fun w x => ∃ g, x = .slice (some ⟨g, 0, none⟩) 0 0 ∧ GOwn (rawT 2 38 30) W0 w x [], fun w w' x ⟨g, h1, h2⟩ hb => ⟨g, h1, h2.later hb⟩⟩
def ooV (J : Nat → Prop) (W0 : World) (l : List Od) : SV := ⟨fun w x => OO J W0 w x l, fun w w' x h hb => h.later od_rel hb⟩
def agV (J : Nat → Prop) (W0 : World) (s : Sx) : SV := ⟨fun w x => ∃ d v, x = .agg #[d, v] ∧ Own W0 w d s.data ∧ OO J W0 w v s.snaps, fun w w' x ⟨d, v, h1, h2, h3⟩ hb => ⟨d, v, h1, h2.later hb, h3.later od_rel hb⟩⟩
def zsV (W0 : World) : SV := ⟨fun w x => ∃ g, x = .pointer (some ⟨g, 0, none⟩) ∧ RecAt w g zeroSt 32 ∧ W0.heap.size ≤ g, fun w w' x ⟨g, h1, h2, h3⟩ hb => ⟨g, h1, h2.later hb, h3⟩⟩
def rsV (J : Nat → Prop) (W0 : World) (s : Sx) : SV := ⟨fun w x => ∃ g d v, x = .pointer (some ⟨g, 0, none⟩) ∧ RecAt w g #[d, v] 32 ∧ W0.heap.size ≤ g ∧ Own W0 w d s.data ∧ OO J W0 w v s.snaps, fun w w' x ⟨g, d, v, h1, h2, h3, h4, h5⟩ hb => ⟨g, d, v, h1, h2.later hb, h3, h4.later hb, h5.later od_rel hb⟩⟩

section
variable {ops : Array Oper} {Q : Exit → Act → World → Prop} {L : List SV} {i : Nat} {o : Oper} {a : Act} {w : World}
theorem op_freshB (hi : ops[i]? = some o) (hg : o.guard = none) (s x : Operand) (ho : o.op = .call { callee := .builtin .append, args := #[s, x], argTypes := #[22, 22] })
    {W0 : World} {g : Nat} (hs : a.eval s = .slice (some ⟨g, 0, none⟩) 0 0) (hown : Own W0 w (.slice (some ⟨g, 0, none⟩) 0 0) []) (ad : Option Addr) (cap n : Nat) (l : List UInt8) (hr : Row w ad cap l) (hn : l.length = n) (hx : a.eval x = .slice ad n cap) (hlen : n ≤ 1000000)
    (hV : ∀ v' w', Own W0 w' v' l → VL L i w' v') : OpGoal Try.prog ops Q L i a w := by
  obtain ⟨v', w', h1, h2, h3⟩ := run_freshB hown ad cap n l hr hn o.type hlen
  refine op_run hi hg (v := v') (w' := w') ?_ (hV v' w' h2) h3
  unfold execOp
  simp only [ho, resolve, invoke, builtin, Sem.run_bind, Sem.run_pure, Result.andThen_ok, List.map_toArray, List.map_cons, List.map_nil, hs, hx, h1]
theorem op_freshO {J : Nat → Prop} (hi : ops[i]? = some o) (hg : o.guard = none) (s x : Operand) (ho : o.op = .call { callee := .builtin .append, args := #[s, x], argTypes := #[30, 30] })
    {W0 : World} {g : Nat} (hs : a.eval s = .slice (some ⟨g, 0, none⟩) 0 0) (hown : GOwn (rawT 2 38 30) W0 w (.slice (some ⟨g, 0, none⟩) 0 0) []) (ad : Option Addr) (cap n : Nat) (l : List Od) (hr : QO J w (.slice ad n cap) l) (hx : a.eval x = .slice ad n cap) (hlen : n ≤ 1000000)
    (hV : ∀ v' w', OO J W0 w' v' l → VL L i w' v') : OpGoal Try.prog ops Q L i a w := by
  obtain ⟨v', w', h1, h2, h3⟩ := run_freshN odT_ok od_rel hown ad cap n l hr o.type hlen
  refine op_run hi hg (v := v') (w' := w') ?_ (hV v' w' h2) h3
  unfold execOp
  simp only [ho, resolve, invoke, builtin, Sem.run_bind, Sem.run_pure, Result.andThen_ok, List.map_toArray, List.map_cons, List.map_nil, hs, hx, h1]
end
theorem grown_set (w : World) (x i : Nat) (v : Value) : w.grownBy (w.setCell ⟨x, i, none⟩ v) (some x) :=
  ⟨rfl, rfl, rfl, by simp [World.setCell], fun k hk hne => by
    have : x ≠ k := fun e => hne (by rw [e])
    simp only [World.setCell, Array.getElem?_modify]
    rw [if_neg this]⟩
theorem fin_st {JO JN : Nat → Prop} {wo W : World} {d v : Value} {l : List UInt8} {os : List Od} (h1 : Own wo W d l) (h2 : OO JO wo W v os) (h3 : NewJ JN wo) (h4 : ∀ b, JO b → JN b) : StA JN W d v ⟨l, os⟩ :=
  ⟨BQ.own h1 h3, ((h2.weakJ od_rel fun b _ hb => h4 b hb).row odT_ok od_rel h3).q⟩
theorem Own.rec {W0 w : World} {g n cap : Nat} {l : List UInt8} (h : Own W0 w (.slice (some ⟨g, 0, none⟩) n cap) l) : ∃ cur, RecAt w g cur 5 := by
  rcases h.1.2 with ⟨hv, _⟩ | ⟨g', cap', cur, hv, hb, hg, _⟩
  · cases hv
  · simp only [Value.slice.injEq, Option.some.injEq, Addr.mk.injEq, and_true, true_and] at hv
    obtain ⟨e, _⟩ := hv
    subst e
    exact ⟨cur, hg⟩
theorem layB_step {b : List UInt8} {off j : Nat} (h : off + j < b.length) : (layB b off (List.replicate j 0)).set (off + j) 0 = layB b off (List.replicate (j + 1) 0) := by
  unfold layB
  have h1 : (b.take off).length = off := by rw [List.length_take]; omega
  rw [List.set_append_right _ _ (by omega), h1, show off + j - off = j by omega, List.set_append_right _ _ (by simp)]
  simp only [List.length_replicate, Nat.sub_self]
  rw [List.replicate_succ', List.append_assoc, List.drop_eq_getElem_cons h, List.set_cons_zero, show off + (j + 1) = off + j + 1 by omega]
  rfl
theorem layB_zero (b : List UInt8) (off : Nat) : layB b off (List.replicate 0 0) = b := by
  unfold layB; simp
def ApplyIs (J : Nat → Prop) (w : World) (s : Sx) (ev : Ev) (e : Ending) (w' : World) : Prop := ∃ d v, e = .returned (.tuple #[.agg #[d, v], .int .i64 (applyM s ev).2]) ∧ StA J w' d v (applyM s ev).1 ∧ Below w.heap.size w w'
set_option maxRecDepth 20000 in
set_option maxHeartbeats 12800000 in
/-- So far: what is refused, Discard, Zero, Resize, Flush. -/
theorem rapply14_part (d v : Value) (s : Sx) (k o m : Int) (a : Option Addr) (n c : Nat) (l : List UInt8) (T : ByteArray) (J : Nat → Prop) (w : World) (hJ : NewJ J w) (h : StA J w d v s) (hr : Row w a c l) (hn : l.length = n) (hT : T.size ≤ 9223372036854775807) (hb1 : s.data.length ≤ 100000) (hb2 : s.snaps.length ≤ 100000) (hkk : checkM s ⟨k, o, m, l, T.data.toList⟩ = 0 → k = 2 ∨ k = 3 ∨ k = 4 ∨ k = 8) :
    Calls Try.prog 33 #[.agg #[d, v], .agg #[.int .i64 k, .int .i64 o, .int .i64 m, .slice a n c, .string T]] w fun e w' => ApplyIs J w s ⟨k, o, m, l, T.data.toList⟩ e w' := by
  obtain ⟨a1, c1, a2, c2, rfl, rfl, rd, rs⟩ := h.open
  obtain ⟨X2, X3, X4, B3⟩ := three_recsS w #[.slice a1 s.data.length c1, .slice a2 s.snaps.length c2] #[.int .i64 k, .int .i64 o, .int .i64 m, .slice a n c, .string T] zeroSt 32 46 32
  obtain ⟨wa, hwo⟩ : ∃ W, (((w.alloc (.cells #[.slice a1 s.data.length c1, .slice a2 s.snaps.length c2] 32)).alloc (.cells #[.int .i64 k, .int .i64 o, .int .i64 m, .slice a n c, .string T] 46)).alloc (.cells zeroSt 32)) = W := ⟨_, rfl⟩
  rw [hwo] at X2 X3 X4 B3
  have HCK := Lib.hid (fun W (hb : Below wa.heap.size wa W) => rcheck14_any (.slice a1 s.data.length c1) (.slice a2 s.snaps.length c2) s o m a n c l T J W k ((h.later B3).later hb) ((hr.later B3).later hb) hn hT)
  obtain ⟨nd, hnd⟩ : ∃ z, s.data.length = z := ⟨_, rfl⟩
  obtain ⟨ns, hns⟩ : ∃ z, s.snaps.length = z := ⟨_, rfl⟩
  rw [hnd] at X2 hwo HCK ⊢
  rw [hns] at X2 hwo rs HCK ⊢
  have HX2a := Lib.hid X2
  have HX3a := Lib.hid X3
  have HX4a := Lib.hid X4
  have HB3 := Lib.hid B3
  have HN1 : Hid (nd ≤ 1000000) := Lib.hid (by omega)
  have HN2 : Hid (ns ≤ 1000000) := Lib.hid (by omega)
  have HN3 : Hid (nd ≤ 100000 ∧ ns ≤ 100000) := Lib.hid ⟨by omega, by omega⟩
  have HND := Lib.hid hnd
  have HNS := Lib.hid hns
  have HRDa := Lib.hid (rd.later B3)
  have HRSa := Lib.hid (rs.later od_rel B3)
  have HEVa := Lib.hid (hr.later B3)
  have HN := Lib.hid hn
  have HJ := Lib.hid hJ
  obtain ⟨hl1, hl2⟩ := rs.lim
  obtain ⟨ev, hev⟩ : ∃ z, (⟨k, o, m, l, T.data.toList⟩ : Ev) = z := ⟨_, rfl⟩
  have HKK := Lib.hid hkk
  rw [hev] at HCK HKK ⊢
  have HEVE := Lib.hid hev
  have HROa := Lib.hid ((rs.weak od_rel (J' := oldJ J w) fun b hb hj => ⟨hj, hb⟩).later od_rel B3)
  obtain ⟨JO, hJO⟩ : ∃ JO, oldJ J w = JO := ⟨_, rfl⟩
  have HJO : Hid (∀ b, JO b → b < w.heap.size ∧ J b) := Lib.hid (by rw [← hJO]; exact fun b hb => ⟨hb.2, hb.1⟩)
  rw [hJO] at HROa
  have HWS := Lib.hid X4.lt
  clear X2 X3 X4 B3 rd rs h hr hn hnd hns hJ hb1 hb2 hev hJO hkk
  go_enter Try.func33, Try.ntmps33
  go_upto_region 1 with fail
  try rw [hwo]
  clear hwo
  obtain ⟨X, hX⟩ : ∃ X, w.heap.size = X := ⟨_, rfl⟩
  simp only [hX] at HX2a HX3a HX4a HJO HWS ⊢
  have HXS := Lib.hid hX
  clear hX
  obtain ⟨x0, x1⟩ := HX2a.out.c2
  obtain ⟨y0, y1, y2, y3, y4⟩ := HX3a.out.c5
  obtain ⟨CK, hCK⟩ : ∃ z, checkM s ev = z := ⟨_, rfl⟩
  rw [hCK] at HCK HKK
  have HCKE := Lib.hid hCK
  clear hCK
  go_wp2_with fail
  refine (HCK.out wa (Below.refl _ _)).mono ?_
  rintro e wo ⟨rfl, b2⟩
  have HB2 := Lib.hid (HB3.out.trans (b2.mono HB3.out.size))
  have HX2 := Lib.hid (HX2a.out.later b2)
  have HX3 := Lib.hid (HX3a.out.later b2)
  have HX4 := Lib.hid (HX4a.out.later b2)
  have HRD := Lib.hid (HRDa.out.later b2)
  have HRS := Lib.hid (HRSa.out.later od_rel b2)
  have HEV := Lib.hid (HEVa.out.later b2)
  have HRO := Lib.hid (HROa.out.later od_rel b2)
  have HWO : Hid (X + 2 < wo.heap.size) := Lib.hid (Nat.lt_of_lt_of_le HWS.out b2.size)
  clear b2 x0 x1 y0 y1 y2 y3 y4 HCK HX2a HX3a HX4a HRDa HRSa HEVa HROa HWS
  by_cases hc0 : CK = 0
  · have hcn : (CK != 0) = false := by simp [hc0]
    have HAP : Hid (applyM s ev = (doneM s ev, 0)) := Lib.hid (applyM_yes (by rw [HCKE.out]; exact hc0))
    have hc0' : CK = 0 := hc0
    clear hc0
    go_upto_region 4 with fail
    clear hcn
    have ub0 := Try.underlying32
    -- REG A4
    refine wp_region_ptabW (L := fun ph => match ph with | 0 => [ebV wo, cV (.pointer (some ⟨X, 0, none⟩)), cV (.slice a1 nd c1), obV wo s.data, eoV wo, cV (.pointer (some ⟨X, 1, none⟩)), cV (.slice a2 ns c2), ooV JO wo s.snaps, agV JO wo s, zsV wo, tV] | _ => [tV, cV (.pointer (some ⟨X, 0, none⟩)), cV (.slice a1 nd c1), tV, tV, cV (.pointer (some ⟨X, 1, none⟩)), cV (.slice a2 ns c2), tV, tV, rsV JO wo s, tV]) (fun _ wq => Below wo.heap.size wo wq) [10] [(0, 0), (0, 0), (0, 0), (0, 0), (0, 0), (0, 0), (0, 0), (0, 0), (0, 0), (0, 0), (0, 1)] [[], [(2, none)], [(18, some 1)], [(17, some 0), (19, some 2)], [], [(2, none)], [(22, some 5)], [(21, some 4), (23, some 6)], [(20, some 3), (24, some 7)], [], [(7, some 9), (25, some 8)]] 11 1 110 (by kernel_rfl) rfl rfl rfl (by kernel_rfl) (by kernel_rfl) (by decide) (by kernel_rfl) ?_ ?_ ?_ ?_ ?_
    · exact fun ph w1 w2 h hb => h.trans (hb.mono h.size)
    · exact (Below.refl _ _)
    · show ∀ i, i < 11 → _
      iterate 11 (refine fls ?_ ?_)
      · exact fl0
      · intro hne lo hi ph hran hp1 hp2 a w1 hJ hsz hs      -- 0: slot 17
        obtain ⟨rfl, rfl⟩ : 0 = lo ∧ 0 = hi := Prod.mk.inj (Option.some.inj hran)
        obtain rfl : ph = 0 := by omega
        exact op_run rfl rfl (v := .slice (some ⟨w1.heap.size, 0, none⟩) 0 0) (w' := w1.alloc (.cells #[] 5)) (by simp [execOp, Act.eval, go_sem]) ⟨w1.heap.size, rfl, (own_empty (W0 := w1) (w := w1) (Below.refl _ _)).back (show Below wo.heap.size wo w1 from hJ)⟩ ((Below.refl _ _).alloc (Nat.le_refl _) _)
      · intro hne lo hi ph hran hp1 hp2 a w1 hJ hsz hs      -- 1: slot 18
        obtain ⟨rfl, rfl⟩ : 0 = lo ∧ 0 = hi := Prod.mk.inj (Option.some.inj hran)
        obtain rfl : ph = 0 := by omega
        obtain ⟨h0, _⟩ := hs
        have h0 : a.tmps.getD 2 undef = .pointer (some ⟨X, 0, none⟩) := h0
        refine op_run rfl rfl (v := .pointer (some ⟨X, 0, none⟩)) (w' := w1) ?_ rfl (Below.refl _ _)
        simp [execOp, Act.eval, h0, go_sem]
      · intro hne lo hi ph hran hp1 hp2 a w1 hJ hsz hs      -- 2: slot 19
        obtain ⟨rfl, rfl⟩ : 0 = lo ∧ 0 = hi := Prod.mk.inj (Option.some.inj hran)
        obtain rfl : ph = 0 := by omega
        obtain ⟨h0, _⟩ := hs
        have h0 : a.tmps.getD 18 undef = .pointer (some ⟨X, 0, none⟩) := h0
        obtain ⟨x0, x1⟩ := (HX2.out.later (show Below wo.heap.size wo w1 from hJ)).c2
        refine op_run rfl rfl (v := .slice a1 nd c1) (w' := w1) ?_ rfl (Below.refl _ _)
        simp [execOp, Act.eval, h0, x0, go_sem]
      · intro hne lo hi ph hran hp1 hp2 a w1 hJ hsz hs      -- 3: slot 20
        obtain ⟨rfl, rfl⟩ : 0 = lo ∧ 0 = hi := Prod.mk.inj (Option.some.inj hran)
        obtain rfl : ph = 0 := by omega
        obtain ⟨h0, h1, _⟩ := hs
        have m0 : (ebV wo).p w1 (a.tmps.getD 17 undef) := h0
        have h1 : a.tmps.getD 19 undef = .slice a1 nd c1 := h1
        obtain ⟨g, e17, o17⟩ := m0
        rw [e17] at o17
        exact op_freshB rfl rfl (.tmp 17) (.tmp 19) rfl e17 o17 a1 c1 nd s.data (HRD.out.later (show Below wo.heap.size wo w1 from hJ)) HND.out h1 HN1.out (fun v' w' hv => hv)
      · intro hne lo hi ph hran hp1 hp2 a w1 hJ hsz hs      -- 4: slot 21
        obtain ⟨rfl, rfl⟩ : 0 = lo ∧ 0 = hi := Prod.mk.inj (Option.some.inj hran)
        obtain rfl : ph = 0 := by omega
        exact op_run rfl rfl (v := .slice (some ⟨w1.heap.size, 0, none⟩) 0 0) (w' := w1.alloc (.cells #[] 38)) (by simp [execOp, Act.eval, go_sem]) ⟨w1.heap.size, rfl, GOwn.empty (show Below wo.heap.size wo w1 from hJ) rfl⟩ ((Below.refl _ _).alloc (Nat.le_refl _) _)
      · intro hne lo hi ph hran hp1 hp2 a w1 hJ hsz hs      -- 5: slot 22
        obtain ⟨rfl, rfl⟩ : 0 = lo ∧ 0 = hi := Prod.mk.inj (Option.some.inj hran)
        obtain rfl : ph = 0 := by omega
        obtain ⟨h0, _⟩ := hs
        have h0 : a.tmps.getD 2 undef = .pointer (some ⟨X, 0, none⟩) := h0
        refine op_run rfl rfl (v := .pointer (some ⟨X, 1, none⟩)) (w' := w1) ?_ rfl (Below.refl _ _)
        simp [execOp, Act.eval, h0, go_sem]
      · intro hne lo hi ph hran hp1 hp2 a w1 hJ hsz hs      -- 6: slot 23
        obtain ⟨rfl, rfl⟩ : 0 = lo ∧ 0 = hi := Prod.mk.inj (Option.some.inj hran)
        obtain rfl : ph = 0 := by omega
        obtain ⟨h0, _⟩ := hs
        have h0 : a.tmps.getD 22 undef = .pointer (some ⟨X, 1, none⟩) := h0
        obtain ⟨x0, x1⟩ := (HX2.out.later (show Below wo.heap.size wo w1 from hJ)).c2
        refine op_run rfl rfl (v := .slice a2 ns c2) (w' := w1) ?_ rfl (Below.refl _ _)
        simp [execOp, Act.eval, h0, x1, go_sem]
      · intro hne lo hi ph hran hp1 hp2 a w1 hJ hsz hs      -- 7: slot 24
        obtain ⟨rfl, rfl⟩ : 0 = lo ∧ 0 = hi := Prod.mk.inj (Option.some.inj hran)
        obtain rfl : ph = 0 := by omega
        obtain ⟨h0, h1, _⟩ := hs
        have m0 : (eoV wo).p w1 (a.tmps.getD 21 undef) := h0
        have h1 : a.tmps.getD 23 undef = .slice a2 ns c2 := h1
        obtain ⟨g, e21, o21⟩ := m0
        rw [e21] at o21
        exact op_freshO rfl rfl (.tmp 21) (.tmp 23) rfl e21 o21 a2 c2 ns s.snaps (HRO.out.later od_rel (show Below wo.heap.size wo w1 from hJ)) h1 HN2.out (fun v' w' hv => hv)
      · intro hne lo hi ph hran hp1 hp2 a w1 hJ hsz hs      -- 8: slot 25
        obtain ⟨rfl, rfl⟩ : 0 = lo ∧ 0 = hi := Prod.mk.inj (Option.some.inj hran)
        obtain rfl : ph = 0 := by omega
        obtain ⟨h0, h1, _⟩ := hs
        have m0 : (obV wo s.data).p w1 (a.tmps.getD 20 undef) := h0
        have m1 : (ooV JO wo s.snaps).p w1 (a.tmps.getD 24 undef) := h1
        have md : Own wo w1 (a.tmps.getD 20 undef) s.data := m0
        have mv : OO JO wo w1 (a.tmps.getD 24 undef) s.snaps := m1
        obtain ⟨d1, hd1⟩ : ∃ z, a.tmps.getD 20 undef = z := ⟨_, rfl⟩
        obtain ⟨v1, hv1⟩ : ∃ z, a.tmps.getD 24 undef = z := ⟨_, rfl⟩
        rw [hd1] at md
        rw [hv1] at mv
        have gd1 : a.tmps[20]?.getD undef = d1 := (Array.getD_eq_getD_getElem? ..).symm.trans hd1
        have gv1 : a.tmps[24]?.getD undef = v1 := (Array.getD_eq_getD_getElem? ..).symm.trans hv1
        refine op_run rfl rfl (v := .agg #[d1, v1]) (w' := w1) ?_ ⟨d1, v1, rfl, md, mv⟩ (Below.refl _ _)
        obtain ⟨ad, cd, rfl, _⟩ := md.row
        obtain ⟨av, cv, rfl⟩ := mv.val odT_ok rfl
        simp [execOp, Act.eval, hd1, hv1, gd1, gv1, go_sem]
      · intro hne lo hi ph hran hp1 hp2 a w1 hJ hsz hs      -- 9: slot 7
        obtain ⟨rfl, rfl⟩ : 0 = lo ∧ 0 = hi := Prod.mk.inj (Option.some.inj hran)
        obtain rfl : ph = 0 := by omega
        refine op_run rfl rfl (v := .pointer (some ⟨w1.heap.size, 0, none⟩)) (w' := w1.alloc (.cells zeroSt 32)) ?_ ⟨w1.heap.size, rfl, RecAt.new w1 _ _, (show Below wo.heap.size wo w1 from hJ).size⟩ ((Below.refl _ _).alloc (Nat.le_refl _) _)
        simp [execOp, Act.eval, go_sem, ub0, zeroSt]
      · intro hne lo hi ph hran hp1 hp2 a w1 hJ hsz hs      -- 10: slot None
        exact absurd (by decide) hne
    · show ∀ ph, ph < 1 → _
      iterate 1 (refine fls ?_ ?_)
      · exact fl0
      · intro i hi a w1 hJ hsz hs      -- heavy 0: op 10 slot None
        obtain rfl : 10 = i := Option.some.inj hi
        obtain ⟨h0, h1, _⟩ := hs
        have m0 : (zsV wo).p w1 (a.tmps.getD 7 undef) := h0
        have m1 : (agV JO wo s).p w1 (a.tmps.getD 25 undef) := h1
        obtain ⟨PX, hvx, hX, hXs⟩ := (show ∃ g, a.tmps.getD 7 undef = .pointer (some ⟨g, 0, none⟩) ∧ RecAt w1 g zeroSt 32 ∧ wo.heap.size ≤ g from m0)
        obtain ⟨d1, v1, e25, md, mv⟩ := m1
        have hone : (#[d1, v1] : Array Value).all (·.oneCell') = true := by
          obtain ⟨ad, cd, rfl, _⟩ := md.row
          obtain ⟨av, cv, rfl⟩ := mv.val odT_ok rfl
          simp [Value.oneCell']
        refine hv_recW rfl rfl (x := PX) (p := .tmp 7) (v := .tmp 25) (cs := zeroSt) (vs := #[d1, v1]) rfl hvx e25 hX rfl (by kernel_rfl) hone (fun w' => trivial) ?_
        intro w' r1 r2 r3 r4
        have hb : Below wo.heap.size wo w' := (show Below wo.heap.size wo w1 from hJ).grown r4 (show Below wo.heap.size wo w1 from hJ).size (fun q e => by cases e; exact hXs)
        have o1 : Own wo w' d1 s.data := md.keptG r4 (.inr (md.neT hX (by decide))) (fun k e => by cases e; exact hXs)
        have o2 : OO JO wo w' v1 s.snaps := mv.keptG od_rel r4 hXs hX (by decide) (fun b hb => by have := (HJO.out b hb).1; have := HWO.out; omega)
        exact ⟨hb, CalmW.all ⟨.inr fun _ _ _ => trivial, .inr fun _ _ h => h, .inr fun _ _ h => h, .inr fun _ _ _ => trivial, .inr fun _ _ _ => trivial, .inr fun _ _ h => h, .inr fun _ _ h => h, .inr fun _ _ _ => trivial, .inr fun _ _ _ => trivial, .inr fun v hh _ => ⟨PX, d1, v1, (hh _ _ rfl rfl).trans hvx, r1, hXs, o1, o2⟩, .inl rfl, trivial⟩⟩
    intro f w1 hJ hv
    have e7 : (rsV JO wo s).p w1 (f 7) := hv 9 _ 7 rfl rfl
    have hbo : Below wo.heap.size wo w1 := hJ
    clear hv
    try simp only [Exit.then]
    simp only [putAll, List.foldl_cons, List.foldl_nil, Option.getD_some, Act.put, List.setIfInBounds_toArray, List.set_cons_succ, List.set_cons_zero]
    obtain ⟨PX, d1, v1, e7, r7, hXs, o1, o2⟩ := e7
    rw [e7]
    clear hJ e7
    -- END A4
    -- one's own blocks, and those of old
    obtain ⟨JN, hJN⟩ : ∃ JN : Nat → Prop, (fun b => JO b ∨ wo.heap.size ≤ b) = JN := ⟨_, rfl⟩
    have HJN1 : Hid (∀ b, JN b → b ≠ X + 2 ∧ J b) := Lib.hid (by
      subst hJN
      rintro b (hb | hb)
      · obtain ⟨h1, h2⟩ := HJO.out b hb
        exact ⟨by omega, h2⟩
      · refine ⟨by have := HWO.out; omega, HJ.out b (by have := HB2.out.size; omega)⟩)
    have HJN2 : Hid (NewJ JN wo) := Lib.hid (by subst hJN; exact fun b hb => .inr hb)
    have HJN3 : Hid (∀ b, JO b → JN b) := Lib.hid (by subst hJN; exact fun b hb => .inl hb)
    have HBO := Lib.hid hbo
    have HR7 := Lib.hid r7
    have HO1 := Lib.hid o1
    have HO2 := Lib.hid o2
    have HX4W := Lib.hid (HX4.out.later hbo)
    have HX3W := Lib.hid (HX3.out.later hbo)
    clear hJN hbo r7 o1 o2
    have hkind := right_kind (check_right (s := s) (e := ev) (by rw [HCKE.out]; exact hc0'))
    have hevk : ev.kind = k := by rw [← HEVE.out]
    rw [hevk] at hkind
    obtain ⟨y0, y1, y2, y3, y4⟩ := HX3W.out.c5
    rcases (show k = 8 ∨ k ≠ 8 by omega) with rfl | hk8
    · have HDN : Hid (doneM s ev = s) := Lib.hid (by unfold doneM; rw [if_neg (by omega), if_neg (by omega), if_neg (by omega), if_neg (by omega), if_neg (by omega), if_neg (by omega)])
      have HST : Hid (StA JN w1 d1 v1 s) := Lib.hid ⟨BQ.own HO1.out HJN2.out, ((HO2.out.weakJ od_rel fun b _ hb => HJN3.out b hb).row odT_ok od_rel HJN2.out).q⟩
      obtain ⟨ad, cd, rfl, -⟩ := HO1.out.row
      obtain ⟨av, cv, rfl⟩ := HO2.out.val odT_ok rfl
      obtain ⟨z0, z1⟩ := HR7.out.c2
      clear hevk hkind
      go_wp2_with (refine wpList_rec rfl rfl (X + 2) zeroSt #[.slice ad s.data.length cd, .slice av s.snaps.length cv] rfl rfl HX4W.out rfl (by kernel_rfl) (by simp [Value.oneCell']) ?_; intro w4 r1 r2 r3 r4)
      refine bodyPost_ret (results_ct rfl rfl r1 Try.underlying32 rfl (by kernel_rfl)) rfl ?_
      unfold ApplyIs
      rw [HAP.out, HDN.out]
      exact ⟨_, _, rfl, (HST.out.keep (fun b hb hj => r3 b (HJN1.out b hj).1) (Nat.le_of_eq r2.symm)).weak fun b _ hj => (HJN1.out b hj).2, (HB2.out.trans (HBO.out.mono HB2.out.size)).grown r4 (HB2.out.trans (HBO.out.mono HB2.out.size)).size (fun q e => by cases e; have := HXS.out; omega)⟩
    · rcases (show k = 4 ∨ k ≠ 4 by omega) with rfl | hk4
      · have hlen : 0 ≤ m ∧ m ≤ 512 := by
          have hR := right_iff.1 (check_right (s := s) (e := ev) (by rw [HCKE.out]; exact hc0'))
          have he2 : ev.len = m := by rw [← HEVE.out]
          rcases hR with r | r | r | r | r <;> omega
        obtain ⟨M, rfl⟩ : ∃ M : Nat, m = M := ⟨m.toNat, by omega⟩
        have hM5 : M ≤ 512 := by omega
        have HDN : Hid (doneM s ev = ⟨sizedL s.data M, s.snaps⟩) := Lib.hid (by unfold doneM; rw [if_neg (by omega), if_neg (by omega), if_pos (by omega), ← HEVE.out]; simp)
        obtain ⟨av, cv, hav⟩ := HO2.out.val odT_ok rfl
        obtain ⟨x0, x1⟩ := (HX2.out.later HBO.out).c2
        obtain ⟨z0, z1⟩ := HR7.out.c2
        clear hevk hkind hk8
        go_wp2_with fail
        refine (rsized_any a1 nd c1 s.data M w1 (HRD.out.later HBO.out) HND.out HN3.out.1 (by omega)).mono ?_
        rintro e w5 ⟨v5, rfl, o5⟩
        have HB5 := Lib.hid o5.below
        have HR75 := Lib.hid (HR7.out.later o5.below)
        have HGR := Lib.hid (grown_set w5 PX 0 v5)
        have HO25 := Lib.hid ((HO2.out.later od_rel o5.below).keptG od_rel HGR.out hXs HR75.out (by decide) (fun b hb => by have := (HJO.out b hb).1; have := HWO.out; omega))
        have HO15 := Lib.hid ((o5.back HBO.out).keptG HGR.out (.inr (o5.neT HR75.out (by decide))) (fun q e => by cases e; exact hXs))
        have HST := Lib.hid (fin_st HO15.out HO25.out HJN2.out HJN3.out)
        have hset := HR75.out.set 0 v5
        have hfr := HR75.out.frozen 0
        obtain ⟨z0, z1⟩ := HR75.out.c2
        have HX4S := Lib.hid ((HX4W.out.later o5.below).other (show X + 2 ≠ PX by have := HWO.out; omega) 0 v5)
        have HBS := Lib.hid ((HBO.out.trans (o5.below.mono HBO.out.size)).grown HGR.out (HBO.out.trans (o5.below.mono HBO.out.size)).size (fun q e => by cases e; exact hXs))
        have HSET := Lib.hid hset
        obtain ⟨ad, cd, rfl, -⟩ := HO15.out.row
        subst hav
        clear o5 x0 x1 y0 y1 y2 y3 y4 hset
        go_upto_region 23 with fail
        generalize hws : (w5.setCell ⟨PX, 0, none⟩ _) = w6 at *
        obtain ⟨z0, z1⟩ := (show RecAt w6 PX #[_, _] 32 from HSET.out).c2
        go_wp2_with (refine wpList_rec rfl rfl (X + 2) zeroSt #[.slice ad (sizedL s.data M).length cd, .slice av s.snaps.length cv] rfl rfl HX4S.out rfl (by kernel_rfl) (by simp [Value.oneCell']) ?_; intro w4 r1 r2 r3 r4)
        refine bodyPost_ret (results_ct rfl rfl r1 Try.underlying32 rfl (by kernel_rfl)) rfl ?_
        unfold ApplyIs
        rw [HAP.out, HDN.out]
        exact ⟨_, _, rfl, (HST.out.keep (fun b hb hj => r3 b (HJN1.out b hj).1) (Nat.le_of_eq r2.symm)).weak fun b _ hj => (HJN1.out b hj).2, (HB2.out.trans (HBS.out.mono HB2.out.size)).grown r4 (HB2.out.trans (HBS.out.mono HB2.out.size)).size (fun q e => by cases e; have := HXS.out; omega)⟩
      · rcases (show (k = 2 ∨ k = 3) ∨ (k ≠ 2 ∧ k ≠ 3) by omega) with hk23 | hk23
        · have hrt := check_right (s := s) (e := ev) (by rw [HCKE.out]; exact hc0')
          have hor : 0 ≤ o ∧ 1 ≤ m := by
            have hR := right_iff.1 hrt
            have he2 : ev.len = m := by rw [← HEVE.out]
            have he3 : ev.off = o := by rw [← HEVE.out]
            rcases hR with r | r | r | r | r <;> first | omega | (have := within_iff.1 r.2.2.1; omega)
          obtain ⟨M, rfl⟩ : ∃ M : Nat, m = M := ⟨m.toNat, by omega⟩
          obtain ⟨O, rfl⟩ : ∃ M : Nat, o = M := ⟨o.toNat, by omega⟩
          have hOM : O + M ≤ nd := by
            have h1 := HCKE.out
            rw [hc0', check_plain hrt (by omega), span_2 hrt (by omega), HND.out, ← HEVE.out] at h1
            simp only at h1
            split at h1
            · cases h1
            · omega
          have hM1 : 1 ≤ M := by omega
          have HDN : Hid (doneM s ev = ⟨layB s.data O (List.replicate M 0), s.snaps⟩) := Lib.hid (by unfold doneM; rw [if_neg (by omega), if_pos (by omega), ← HEVE.out]; simp)
          obtain ⟨av, cv, hav⟩ := HO2.out.val odT_ok rfl
          obtain ⟨g, cd, hd1, hcd1, hcd2⟩ := HO1.out.at HND.out (by omega)
          subst hd1
          subst hav
          have hcd3 : cd ≤ 9223372036854775807 := hcd2
          have hgge := HO1.out.ge
          have HGP : Hid (g ≠ PX) := Lib.hid fun e => by have := HO1.out.neT HR7.out (by decide); exact this (by rw [e]; rfl)
          have HGX : Hid (wo.heap.size ≤ g) := Lib.hid hgge.1
          have HLL : Hid (∀ j, j ≤ M → (layB s.data O (List.replicate j 0)).length = nd) := Lib.hid fun j hj => by rw [layB_len (by rw [List.length_replicate, HND.out]; omega), HND.out]
          have HHX3 := Lib.hid HX3W.out
          have HXLT := Lib.hid (HX3W.out.lt)
          have hX1 : X + 1 < wo.heap.size := by have := HWO.out; omega
          have HX1 := Lib.hid hX1
          clear hevk hkind hk8 hk4 hcd2 hgge hor hrt hX1 y0 y1 y2 y3 y4
          obtain ⟨y0, y1, y2, y3, y4⟩ := HX3W.out.c5
          rcases hk23 with rfl | rfl
          all_goals
            go_wp2_with fail
            clear y0 y1 y2 y3 y4
            go_loopw [8] (fun i wr => ∃ j : Nat, i = .int .i64 j ∧ j ≤ M ∧ Below wo.heap.size wo wr ∧ Hid (RecAt wr PX #[.slice (some ⟨g, 0, none⟩) nd cd, .slice av s.snaps.length cv] 32) ∧ Hid (Own wo wr (.slice (some ⟨g, 0, none⟩) nd cd) (layB s.data O (List.replicate j 0))) ∧ Hid (OO JO wo wr (.slice av s.snaps.length cv) s.snaps)) (fun i _ => M - (intOf i).toNat)
            case atStart => exact ⟨0, rfl, by omega, HBO.out, HR7, by rw [layB_zero]; exact HO1, HO2⟩
            case round =>
              obtain ⟨j, rfl, hj, hbr, HRP, HRO1, HRO2⟩ := hrel
              have HBR := Lib.hid hbr
              have HX3R := Lib.hid (HX3.out.later hbr)
              have HX4R := Lib.hid (HX4.out.later hbr)
              clear hbr
              obtain ⟨y0, y1, y2, y3, y4⟩ := HX3R.out.c5
              obtain ⟨z0, z1⟩ := HRP.out.c2
              by_cases hjM : (j : Int) < M
              · have hix : O + j < nd := by omega
                have hixI : (O : Int) + (j : Int) < (nd : Int) := by omega
                obtain ⟨u, hu⟩ : ∃ u, (layB s.data O (List.replicate j 0))[O + j]? = some u := ⟨_, List.getElem?_eq_getElem (by rw [HLL.out j (by omega)]; exact hix)⟩
                have q0 := HRO1.out.cellAt (HLL.out j (by omega)) hu
                have q1 := HRO1.out.frozenAt (HLL.out j (by omega)) (O + j)
                have hst := HRO1.out.stored (HLL.out j (by omega)) (O + j) 0
                rw [layB_step (by rw [HND.out]; exact hix)] at hst
                have HS1 : Hid (Own wo (wr.setCell ⟨g, O + j, none⟩ (.int .u8 0)) (.slice (some ⟨g, 0, none⟩) nd cd) (layB s.data O (List.replicate (j + 1) 0))) := Lib.hid hst
                have HGR := Lib.hid (grown_set wr g (O + j) (.int .u8 0))
                have HS2 := Lib.hid (HRP.out.other (fun e => HGP.out e.symm) (O + j) (.int .u8 0))
                obtain ⟨cur, hcur⟩ := HRO1.out.rec
                have HS3 := Lib.hid (HRO2.out.keptG od_rel HGR.out HGX.out hcur (by decide) (fun b hb => by have := (HJO.out b hb).1; have := HWO.out; have := HGX.out; omega))
                have HS4 := Lib.hid (HBR.out.grown HGR.out HBR.out.size (fun q e => by cases e; exact HGX.out))
                clear hst hu hcur
                go_wp2_with fail
                go_roundw
                case rel => exact ⟨j + 1, by go_num, by omega, HS4.out, HS2, HS1, HS3⟩
                case measure => simp [intOf]; omega
              · have hjE : j = M := by omega
                subst hjE
                have HST := Lib.hid (fin_st HRO1.out HRO2.out HJN2.out HJN3.out)
                go_wp2_with (refine wpList_rec rfl rfl (X + 2) zeroSt #[.slice (some ⟨g, 0, none⟩) nd cd, .slice av s.snaps.length cv] rfl rfl HX4R.out rfl (by kernel_rfl) (by simp [Value.oneCell']) ?_; intro w4 r1 r2 r3 r4)
                refine bodyPost_ret (results_ct rfl rfl r1 Try.underlying32 rfl (by kernel_rfl)) rfl ?_
                unfold ApplyIs
                rw [HAP.out, HDN.out]
                exact ⟨_, _, rfl, (HST.out.keep (fun b hb hj => r3 b (HJN1.out b hj).1) (Nat.le_of_eq r2.symm)).weak fun b _ hj => (HJN1.out b hj).2, (HB2.out.trans (HBR.out.mono HB2.out.size)).grown r4 (HB2.out.trans (HBR.out.mono HB2.out.size)).size (fun q e => by cases e; have := HXS.out; omega)⟩
        · exfalso
          rcases HKK.out hc0' with h | h | h | h <;> omega
  · have hcn : (CK != 0) = true := by simp [hc0]
    have HAP : Hid (applyM s ev = (noSx, CK)) := Lib.hid (by rw [applyM_no (by rw [HCKE.out]; exact hc0), HCKE.out])
    clear hc0
    go_wp2_with (refine wpList_rec rfl rfl (X + 2) zeroSt zeroSt rfl rfl HX4.out rfl (by kernel_rfl) (by kernel_rfl) ?_; intro w4 r1 r2 r3 r4)
    refine bodyPost_ret (results_ct rfl rfl r1 Try.underlying32 rfl (by kernel_rfl)) rfl ?_
    unfold ApplyIs
    rw [HAP.out]
    exact ⟨_, _, rfl, ⟨BQ.nil _ _, QRow.nil _ _⟩, HB2.out.grown r4 HB2.out.size (fun q e => by cases e; have := HXS.out; omega)⟩
end Go.Proofs.Ytbpddcmehjgleaa
namespace Go.Proofs.Ytbpddcmehjgleaa
open Go.RowKit Go.Proofs
set_option linter.unusedVariables false
set_option linter.unusedSimpArgs false
set_option linter.unnecessarySimpa false

/-- 'copy(s[off:], p)' into one's own bytes, as an operation that a region's walk stands at. -/
theorem step_ocopy {ops : Array Oper} {o : Oper} {a : Act} {w : World} {K : Act → World → Prop} {Q : Exit → Act → World → Prop} {E : Prop} (hgd : o.guard = none) (d s : Operand)
    (ho : o.op = .call { callee := .builtin .copy, args := #[d, s], argTypes := #[22, 22] })
    (g off n cap : Nat) (W0 : World) (b : List UInt8) (hown : Own W0 w (.slice (some ⟨g, 0, none⟩) n cap) b) (hn : b.length = n)
    (sp : Option Addr) (sc m : Nat) (p : List UInt8) (hr : Row w sp sc p) (hm : p.length = m)
    (hd : a.eval d = .slice (some ⟨g, off, none⟩) (n - off) (cap - off)) (hs : a.eval s = .slice sp m sc) (hfit : off + m ≤ n)
    (h : ∀ v w', Own W0 w' (.slice (some ⟨g, 0, none⟩) n cap) (layB b off p) → w.grownBy w' (some g) → K (a.put o.dst v) w') :
    if Region.wanted o (yielded ops a.tmps) = true then Oper.wp Try.prog o a w K Q else E := by
  have hw : Region.wanted o (yielded ops a.tmps) = true := by simp [Region.wanted, hgd]
  rw [if_pos hw]
  subst hn hm
  obtain ⟨i0, hi, hz0, hz1, hz2⟩ := info_parts info_u8
  have hsz : (Try.prog.info? 5).map (·.size) = some 1 := by rw [hi]; simp [hz1]
  rcases hown.1.2 with ⟨hv, _⟩ | ⟨g', cap', cur, hv, hb, hg, hnc, hc, hss, ht⟩
  · cases hv
  · obtain ⟨rfl, rfl⟩ : g = g' ∧ cap = cap' := by simp only [Value.slice.injEq, Option.some.injEq, Addr.mk.injEq, and_true, true_and] at hv; exact hv
    rw [Nat.mul_one] at hss ht
    have hmin : Nat.min p.length (b.length - off) = p.length := Nat.min_eq_left (by omega)
    cases sp with
    | none =>
      obtain ⟨rfl, _⟩ := hr.of_nil
      have hrun := run_copy_none (P := Try.prog) w 22 22 o.type 5 (some ⟨g, off, none⟩) none (b.length - off) (cap - off) 0 sc Try.underlying22 hsz (by simp)
      unfold Oper.wp
      simp [execOp, ho, resolve, invoke, builtin, hd, hs, hrun, Result.andThen]
      refine h _ w ?_ ⟨rfl, rfl, rfl, Nat.le_refl _, fun _ _ _ => rfl⟩
      have : layB b off [] = b := by unfold layB; simp
      rw [this]; exact hown
    | some ad =>
      have hrun := run_copy_row (P := Try.prog) w 22 22 o.type 5 g off (b.length - off) (cap - off) ad p.length sc cur 5 (p.map B8) Try.underlying22 hsz hg (by rw [List.length_map, hmin]) (fun j v hv => by
        rw [List.getElem?_map] at hv
        cases hj : p[j]? with
        | none => rw [hj] at hv; cases hv
        | some q => rw [hj] at hv; cases hv; exact hr.2.2.2 ad rfl j q hj) (by rw [List.length_map, hss]; omega) (fun v hv => by
        obtain ⟨q, _, rfl⟩ := List.mem_map.1 hv; rfl)
      unfold Oper.wp
      simp [execOp, ho, resolve, invoke, builtin, hd, hs, hrun, Result.andThen]
      have hgr : ∀ cs, w.grownBy (w.setRow g cs) (some g) := fun cs => ⟨rfl, rfl, rfl, by simp [World.setRow], fun k hk hne => setRow_other w g k cs (fun e => hne (by rw [e]))⟩
      refine h _ _ ?_ (hgr _)
      refine ⟨⟨by simp, .inr ⟨g, cap, _, by rw [layB_len hfit], hb, setRow_heap w g _ _ _ _ hg, by rw [layB_len hfit]; exact hnc, hc, ?_, ?_⟩⟩, hown.2.grown (hgr _) hown.2.size (fun q e => by cases e; exact hb)⟩
      · simp only [List.size_toArray, List.length_append, List.length_take, List.length_drop, List.length_map, Array.length_toList, hss]; omega
      · have h5 : cur.toList.length = cap := by rw [Array.length_toList, hss]
        rw [layB_len hfit, Nat.mul_one]
        unfold layB
        rw [List.map_append, List.map_append, List.map_take, List.map_drop, ← ht]
        apply List.ext_getElem?
        intro i
        simp only [List.getElem?_take, List.getElem?_append, List.length_take, List.length_map, h5, List.getElem?_drop]
        grind
-- HEAD
set_option maxRecDepth 20000 in
set_option maxHeartbeats 12800000 in
theorem rapply14_k1 (d v : Value) (s : Sx) (k o m : Int) (a : Option Addr) (n c : Nat) (l : List UInt8) (T : ByteArray) (J : Nat → Prop) (w : World) (hJ : NewJ J w) (h : StA J w d v s) (hr : Row w a c l) (hn : l.length = n) (hT : T.size ≤ 9223372036854775807) (hb1 : s.data.length ≤ 100000) (hb2 : s.snaps.length ≤ 100000) (hkk : checkM s ⟨k, o, m, l, T.data.toList⟩ = 0 → k = 1) :
    Calls Try.prog 33 #[.agg #[d, v], .agg #[.int .i64 k, .int .i64 o, .int .i64 m, .slice a n c, .string T]] w fun e w' => ApplyIs J w s ⟨k, o, m, l, T.data.toList⟩ e w' := by
  obtain ⟨a1, c1, a2, c2, rfl, rfl, rd, rs⟩ := h.open
  obtain ⟨X2, X3, X4, B3⟩ := three_recsS w #[.slice a1 s.data.length c1, .slice a2 s.snaps.length c2] #[.int .i64 k, .int .i64 o, .int .i64 m, .slice a n c, .string T] zeroSt 32 46 32
  obtain ⟨wa, hwo⟩ : ∃ W, (((w.alloc (.cells #[.slice a1 s.data.length c1, .slice a2 s.snaps.length c2] 32)).alloc (.cells #[.int .i64 k, .int .i64 o, .int .i64 m, .slice a n c, .string T] 46)).alloc (.cells zeroSt 32)) = W := ⟨_, rfl⟩
  rw [hwo] at X2 X3 X4 B3
  have HCK := Lib.hid (fun W (hb : Below wa.heap.size wa W) => rcheck14_any (.slice a1 s.data.length c1) (.slice a2 s.snaps.length c2) s o m a n c l T J W k ((h.later B3).later hb) ((hr.later B3).later hb) hn hT)
  obtain ⟨nd, hnd⟩ : ∃ z, s.data.length = z := ⟨_, rfl⟩
  obtain ⟨ns, hns⟩ : ∃ z, s.snaps.length = z := ⟨_, rfl⟩
  rw [hnd] at X2 hwo HCK ⊢
  rw [hns] at X2 hwo rs HCK ⊢
  have HX2a := Lib.hid X2
  have HX3a := Lib.hid X3
  have HX4a := Lib.hid X4
  have HB3 := Lib.hid B3
  have HN1 : Hid (nd ≤ 1000000) := Lib.hid (by omega)
  have HN2 : Hid (ns ≤ 1000000) := Lib.hid (by omega)
  have HN3 : Hid (nd ≤ 100000 ∧ ns ≤ 100000) := Lib.hid ⟨by omega, by omega⟩
  have HND := Lib.hid hnd
  have HNS := Lib.hid hns
  have HRDa := Lib.hid (rd.later B3)
  have HRSa := Lib.hid (rs.later od_rel B3)
  have HEVa := Lib.hid (hr.later B3)
  have HN := Lib.hid hn
  have HJ := Lib.hid hJ
  obtain ⟨hl1, hl2⟩ := rs.lim
  obtain ⟨ev, hev⟩ : ∃ z, (⟨k, o, m, l, T.data.toList⟩ : Ev) = z := ⟨_, rfl⟩
  have HKK := Lib.hid hkk
  rw [hev] at HCK HKK ⊢
  have HEVE := Lib.hid hev
  have HROa := Lib.hid ((rs.weak od_rel (J' := oldJ J w) fun b hb hj => ⟨hj, hb⟩).later od_rel B3)
  obtain ⟨JO, hJO⟩ : ∃ JO, oldJ J w = JO := ⟨_, rfl⟩
  have HJO : Hid (∀ b, JO b → b < w.heap.size ∧ J b) := Lib.hid (by rw [← hJO]; exact fun b hb => ⟨hb.2, hb.1⟩)
  rw [hJO] at HROa
  have HWS := Lib.hid X4.lt
  clear X2 X3 X4 B3 rd rs h hr hn hnd hns hJ hb1 hb2 hev hJO hkk
  go_enter Try.func33, Try.ntmps33
  go_upto_region 1 with fail
  try rw [hwo]
  clear hwo
  obtain ⟨X, hX⟩ : ∃ X, w.heap.size = X := ⟨_, rfl⟩
  simp only [hX] at HX2a HX3a HX4a HJO HWS ⊢
  have HXS := Lib.hid hX
  clear hX
  obtain ⟨x0, x1⟩ := HX2a.out.c2
  obtain ⟨y0, y1, y2, y3, y4⟩ := HX3a.out.c5
  obtain ⟨CK, hCK⟩ : ∃ z, checkM s ev = z := ⟨_, rfl⟩
  rw [hCK] at HCK HKK
  have HCKE := Lib.hid hCK
  clear hCK
  go_wp2_with fail
  refine (HCK.out wa (Below.refl _ _)).mono ?_
  rintro e wo ⟨rfl, b2⟩
  have HB2 := Lib.hid (HB3.out.trans (b2.mono HB3.out.size))
  have HX2 := Lib.hid (HX2a.out.later b2)
  have HX3 := Lib.hid (HX3a.out.later b2)
  have HX4 := Lib.hid (HX4a.out.later b2)
  have HRD := Lib.hid (HRDa.out.later b2)
  have HRS := Lib.hid (HRSa.out.later od_rel b2)
  have HEV := Lib.hid (HEVa.out.later b2)
  have HRO := Lib.hid (HROa.out.later od_rel b2)
  have HWO : Hid (X + 2 < wo.heap.size) := Lib.hid (Nat.lt_of_lt_of_le HWS.out b2.size)
  clear b2 x0 x1 y0 y1 y2 y3 y4 HCK HX2a HX3a HX4a HRDa HRSa HEVa HROa HWS
  by_cases hc0 : CK = 0
  · have hcn : (CK != 0) = false := by simp [hc0]
    have HAP : Hid (applyM s ev = (doneM s ev, 0)) := Lib.hid (applyM_yes (by rw [HCKE.out]; exact hc0))
    have hc0' : CK = 0 := hc0
    clear hc0
    go_upto_region 4 with fail
    clear hcn
    have ub0 := Try.underlying32
    -- REG A4
    refine wp_region_ptabW (L := fun ph => match ph with | 0 => [ebV wo, cV (.pointer (some ⟨X, 0, none⟩)), cV (.slice a1 nd c1), obV wo s.data, eoV wo, cV (.pointer (some ⟨X, 1, none⟩)), cV (.slice a2 ns c2), ooV JO wo s.snaps, agV JO wo s, zsV wo, tV] | _ => [tV, cV (.pointer (some ⟨X, 0, none⟩)), cV (.slice a1 nd c1), tV, tV, cV (.pointer (some ⟨X, 1, none⟩)), cV (.slice a2 ns c2), tV, tV, rsV JO wo s, tV]) (fun _ wq => Below wo.heap.size wo wq) [10] [(0, 0), (0, 0), (0, 0), (0, 0), (0, 0), (0, 0), (0, 0), (0, 0), (0, 0), (0, 0), (0, 1)] [[], [(2, none)], [(18, some 1)], [(17, some 0), (19, some 2)], [], [(2, none)], [(22, some 5)], [(21, some 4), (23, some 6)], [(20, some 3), (24, some 7)], [], [(7, some 9), (25, some 8)]] 11 1 110 (by kernel_rfl) rfl rfl rfl (by kernel_rfl) (by kernel_rfl) (by decide) (by kernel_rfl) ?_ ?_ ?_ ?_ ?_
    · exact fun ph w1 w2 h hb => h.trans (hb.mono h.size)
    · exact (Below.refl _ _)
    · show ∀ i, i < 11 → _
      iterate 11 (refine fls ?_ ?_)
      · exact fl0
      · intro hne lo hi ph hran hp1 hp2 a w1 hJ hsz hs      -- 0: slot 17
        obtain ⟨rfl, rfl⟩ : 0 = lo ∧ 0 = hi := Prod.mk.inj (Option.some.inj hran)
        obtain rfl : ph = 0 := by omega
        exact op_run rfl rfl (v := .slice (some ⟨w1.heap.size, 0, none⟩) 0 0) (w' := w1.alloc (.cells #[] 5)) (by simp [execOp, Act.eval, go_sem]) ⟨w1.heap.size, rfl, (own_empty (W0 := w1) (w := w1) (Below.refl _ _)).back (show Below wo.heap.size wo w1 from hJ)⟩ ((Below.refl _ _).alloc (Nat.le_refl _) _)
      · intro hne lo hi ph hran hp1 hp2 a w1 hJ hsz hs      -- 1: slot 18
        obtain ⟨rfl, rfl⟩ : 0 = lo ∧ 0 = hi := Prod.mk.inj (Option.some.inj hran)
        obtain rfl : ph = 0 := by omega
        obtain ⟨h0, _⟩ := hs
        have h0 : a.tmps.getD 2 undef = .pointer (some ⟨X, 0, none⟩) := h0
        refine op_run rfl rfl (v := .pointer (some ⟨X, 0, none⟩)) (w' := w1) ?_ rfl (Below.refl _ _)
        simp [execOp, Act.eval, h0, go_sem]
      · intro hne lo hi ph hran hp1 hp2 a w1 hJ hsz hs      -- 2: slot 19
        obtain ⟨rfl, rfl⟩ : 0 = lo ∧ 0 = hi := Prod.mk.inj (Option.some.inj hran)
        obtain rfl : ph = 0 := by omega
        obtain ⟨h0, _⟩ := hs
        have h0 : a.tmps.getD 18 undef = .pointer (some ⟨X, 0, none⟩) := h0
        obtain ⟨x0, x1⟩ := (HX2.out.later (show Below wo.heap.size wo w1 from hJ)).c2
        refine op_run rfl rfl (v := .slice a1 nd c1) (w' := w1) ?_ rfl (Below.refl _ _)
        simp [execOp, Act.eval, h0, x0, go_sem]
      · intro hne lo hi ph hran hp1 hp2 a w1 hJ hsz hs      -- 3: slot 20
        obtain ⟨rfl, rfl⟩ : 0 = lo ∧ 0 = hi := Prod.mk.inj (Option.some.inj hran)
        obtain rfl : ph = 0 := by omega
        obtain ⟨h0, h1, _⟩ := hs
        have m0 : (ebV wo).p w1 (a.tmps.getD 17 undef) := h0
        have h1 : a.tmps.getD 19 undef = .slice a1 nd c1 := h1
        obtain ⟨g, e17, o17⟩ := m0
        rw [e17] at o17
        exact op_freshB rfl rfl (.tmp 17) (.tmp 19) rfl e17 o17 a1 c1 nd s.data (HRD.out.later (show Below wo.heap.size wo w1 from hJ)) HND.out h1 HN1.out (fun v' w' hv => hv)
      · intro hne lo hi ph hran hp1 hp2 a w1 hJ hsz hs      -- 4: slot 21
        obtain ⟨rfl, rfl⟩ : 0 = lo ∧ 0 = hi := Prod.mk.inj (Option.some.inj hran)
        obtain rfl : ph = 0 := by omega
        exact op_run rfl rfl (v := .slice (some ⟨w1.heap.size, 0, none⟩) 0 0) (w' := w1.alloc (.cells #[] 38)) (by simp [execOp, Act.eval, go_sem]) ⟨w1.heap.size, rfl, GOwn.empty (show Below wo.heap.size wo w1 from hJ) rfl⟩ ((Below.refl _ _).alloc (Nat.le_refl _) _)
      · intro hne lo hi ph hran hp1 hp2 a w1 hJ hsz hs      -- 5: slot 22
        obtain ⟨rfl, rfl⟩ : 0 = lo ∧ 0 = hi := Prod.mk.inj (Option.some.inj hran)
        obtain rfl : ph = 0 := by omega
        obtain ⟨h0, _⟩ := hs
        have h0 : a.tmps.getD 2 undef = .pointer (some ⟨X, 0, none⟩) := h0
        refine op_run rfl rfl (v := .pointer (some ⟨X, 1, none⟩)) (w' := w1) ?_ rfl (Below.refl _ _)
        simp [execOp, Act.eval, h0, go_sem]
      · intro hne lo hi ph hran hp1 hp2 a w1 hJ hsz hs      -- 6: slot 23
        obtain ⟨rfl, rfl⟩ : 0 = lo ∧ 0 = hi := Prod.mk.inj (Option.some.inj hran)
        obtain rfl : ph = 0 := by omega
        obtain ⟨h0, _⟩ := hs
        have h0 : a.tmps.getD 22 undef = .pointer (some ⟨X, 1, none⟩) := h0
        obtain ⟨x0, x1⟩ := (HX2.out.later (show Below wo.heap.size wo w1 from hJ)).c2
        refine op_run rfl rfl (v := .slice a2 ns c2) (w' := w1) ?_ rfl (Below.refl _ _)
        simp [execOp, Act.eval, h0, x1, go_sem]
      · intro hne lo hi ph hran hp1 hp2 a w1 hJ hsz hs      -- 7: slot 24
        obtain ⟨rfl, rfl⟩ : 0 = lo ∧ 0 = hi := Prod.mk.inj (Option.some.inj hran)
        obtain rfl : ph = 0 := by omega
        obtain ⟨h0, h1, _⟩ := hs
        have m0 : (eoV wo).p w1 (a.tmps.getD 21 undef) := h0
        have h1 : a.tmps.getD 23 undef = .slice a2 ns c2 := h1
        obtain ⟨g, e21, o21⟩ := m0
        rw [e21] at o21
        exact op_freshO rfl rfl (.tmp 21) (.tmp 23) rfl e21 o21 a2 c2 ns s.snaps (HRO.out.later od_rel (show Below wo.heap.size wo w1 from hJ)) h1 HN2.out (fun v' w' hv => hv)
      · intro hne lo hi ph hran hp1 hp2 a w1 hJ hsz hs      -- 8: slot 25
        obtain ⟨rfl, rfl⟩ : 0 = lo ∧ 0 = hi := Prod.mk.inj (Option.some.inj hran)
        obtain rfl : ph = 0 := by omega
        obtain ⟨h0, h1, _⟩ := hs
        have m0 : (obV wo s.data).p w1 (a.tmps.getD 20 undef) := h0
        have m1 : (ooV JO wo s.snaps).p w1 (a.tmps.getD 24 undef) := h1
        have md : Own wo w1 (a.tmps.getD 20 undef) s.data := m0
        have mv : OO JO wo w1 (a.tmps.getD 24 undef) s.snaps := m1
        obtain ⟨d1, hd1⟩ : ∃ z, a.tmps.getD 20 undef = z := ⟨_, rfl⟩
        obtain ⟨v1, hv1⟩ : ∃ z, a.tmps.getD 24 undef = z := ⟨_, rfl⟩
        rw [hd1] at md
        rw [hv1] at mv
        have gd1 : a.tmps[20]?.getD undef = d1 := (Array.getD_eq_getD_getElem? ..).symm.trans hd1
        have gv1 : a.tmps[24]?.getD undef = v1 := (Array.getD_eq_getD_getElem? ..).symm.trans hv1
        refine op_run rfl rfl (v := .agg #[d1, v1]) (w' := w1) ?_ ⟨d1, v1, rfl, md, mv⟩ (Below.refl _ _)
        obtain ⟨ad, cd, rfl, _⟩ := md.row
        obtain ⟨av, cv, rfl⟩ := mv.val odT_ok rfl
        simp [execOp, Act.eval, hd1, hv1, gd1, gv1, go_sem]
      · intro hne lo hi ph hran hp1 hp2 a w1 hJ hsz hs      -- 9: slot 7
        obtain ⟨rfl, rfl⟩ : 0 = lo ∧ 0 = hi := Prod.mk.inj (Option.some.inj hran)
        obtain rfl : ph = 0 := by omega
        refine op_run rfl rfl (v := .pointer (some ⟨w1.heap.size, 0, none⟩)) (w' := w1.alloc (.cells zeroSt 32)) ?_ ⟨w1.heap.size, rfl, RecAt.new w1 _ _, (show Below wo.heap.size wo w1 from hJ).size⟩ ((Below.refl _ _).alloc (Nat.le_refl _) _)
        simp [execOp, Act.eval, go_sem, ub0, zeroSt]
      · intro hne lo hi ph hran hp1 hp2 a w1 hJ hsz hs      -- 10: slot None
        exact absurd (by decide) hne
    · show ∀ ph, ph < 1 → _
      iterate 1 (refine fls ?_ ?_)
      · exact fl0
      · intro i hi a w1 hJ hsz hs      -- heavy 0: op 10 slot None
        obtain rfl : 10 = i := Option.some.inj hi
        obtain ⟨h0, h1, _⟩ := hs
        have m0 : (zsV wo).p w1 (a.tmps.getD 7 undef) := h0
        have m1 : (agV JO wo s).p w1 (a.tmps.getD 25 undef) := h1
        obtain ⟨PX, hvx, hX, hXs⟩ := (show ∃ g, a.tmps.getD 7 undef = .pointer (some ⟨g, 0, none⟩) ∧ RecAt w1 g zeroSt 32 ∧ wo.heap.size ≤ g from m0)
        obtain ⟨d1, v1, e25, md, mv⟩ := m1
        have hone : (#[d1, v1] : Array Value).all (·.oneCell') = true := by
          obtain ⟨ad, cd, rfl, _⟩ := md.row
          obtain ⟨av, cv, rfl⟩ := mv.val odT_ok rfl
          simp [Value.oneCell']
        refine hv_recW rfl rfl (x := PX) (p := .tmp 7) (v := .tmp 25) (cs := zeroSt) (vs := #[d1, v1]) rfl hvx e25 hX rfl (by kernel_rfl) hone (fun w' => trivial) ?_
        intro w' r1 r2 r3 r4
        have hb : Below wo.heap.size wo w' := (show Below wo.heap.size wo w1 from hJ).grown r4 (show Below wo.heap.size wo w1 from hJ).size (fun q e => by cases e; exact hXs)
        have o1 : Own wo w' d1 s.data := md.keptG r4 (.inr (md.neT hX (by decide))) (fun k e => by cases e; exact hXs)
        have o2 : OO JO wo w' v1 s.snaps := mv.keptG od_rel r4 hXs hX (by decide) (fun b hb => by have := (HJO.out b hb).1; have := HWO.out; omega)
        exact ⟨hb, CalmW.all ⟨.inr fun _ _ _ => trivial, .inr fun _ _ h => h, .inr fun _ _ h => h, .inr fun _ _ _ => trivial, .inr fun _ _ _ => trivial, .inr fun _ _ h => h, .inr fun _ _ h => h, .inr fun _ _ _ => trivial, .inr fun _ _ _ => trivial, .inr fun v hh _ => ⟨PX, d1, v1, (hh _ _ rfl rfl).trans hvx, r1, hXs, o1, o2⟩, .inl rfl, trivial⟩⟩
    intro f w1 hJ hv
    have e7 : (rsV JO wo s).p w1 (f 7) := hv 9 _ 7 rfl rfl
    have hbo : Below wo.heap.size wo w1 := hJ
    clear hv
    try simp only [Exit.then]
    simp only [putAll, List.foldl_cons, List.foldl_nil, Option.getD_some, Act.put, List.setIfInBounds_toArray, List.set_cons_succ, List.set_cons_zero]
    obtain ⟨PX, d1, v1, e7, r7, hXs, o1, o2⟩ := e7
    rw [e7]
    clear hJ e7
    -- END A4
    -- one's own blocks, and those of old
    obtain ⟨JN, hJN⟩ : ∃ JN : Nat → Prop, (fun b => JO b ∨ wo.heap.size ≤ b) = JN := ⟨_, rfl⟩
    have HJN1 : Hid (∀ b, JN b → b ≠ X + 2 ∧ J b) := Lib.hid (by
      subst hJN
      rintro b (hb | hb)
      · obtain ⟨h1, h2⟩ := HJO.out b hb
        exact ⟨by omega, h2⟩
      · refine ⟨by have := HWO.out; omega, HJ.out b (by have := HB2.out.size; omega)⟩)
    have HJN2 : Hid (NewJ JN wo) := Lib.hid (by subst hJN; exact fun b hb => .inr hb)
    have HJN3 : Hid (∀ b, JO b → JN b) := Lib.hid (by subst hJN; exact fun b hb => .inl hb)
    have HBO := Lib.hid hbo
    have HR7 := Lib.hid r7
    have HO1 := Lib.hid o1
    have HO2 := Lib.hid o2
    have HX4W := Lib.hid (HX4.out.later hbo)
    have HX3W := Lib.hid (HX3.out.later hbo)
    clear hJN hbo r7 o1 o2
    have hkind := right_kind (check_right (s := s) (e := ev) (by rw [HCKE.out]; exact hc0'))
    have hevk : ev.kind = k := by rw [← HEVE.out]
    rw [hevk] at hkind
    obtain ⟨y0, y1, y2, y3, y4⟩ := HX3W.out.c5
    obtain rfl : k = 1 := HKK.out hc0'
    have hrt := check_right (s := s) (e := ev) (by rw [HCKE.out]; exact hc0')
    have hed : ev.data = l := by rw [← HEVE.out]
    have heo : ev.off = o := by rw [← HEVE.out]
    have hor : 0 ≤ o ∧ 1 ≤ n ∧ n ≤ 64 := by
      have hR := right_iff.1 hrt
      have hl : ev.data.length = n := by rw [hed, HN.out]
      rcases hR with r | r | r | r | r <;> first | omega | (have := within_iff.1 r.2.2.1; omega)
    obtain ⟨O, rfl⟩ : ∃ M : Nat, o = M := ⟨o.toNat, by omega⟩
    have hOM : O + n ≤ nd := by
      have h1 := HCKE.out
      rw [hc0', check_plain hrt (by omega), span_1 hrt (by omega), HND.out, ← HEVE.out] at h1
      simp only at h1
      rw [HN.out] at h1
      split at h1
      · cases h1
      · omega
    have hn1 : 1 ≤ n := hor.2.1
    have hn64 : n ≤ 64 := hor.2.2
    have HDN : Hid (doneM s ev = ⟨layB s.data O l, s.snaps⟩) := Lib.hid (by unfold doneM; rw [if_pos (by omega), ← HEVE.out]; simp)
    obtain ⟨av, cv, hav⟩ := HO2.out.val odT_ok rfl
    obtain ⟨g, cd, hd1, hcd1, hcd2⟩ := HO1.out.at HND.out (by omega)
    subst hd1
    subst hav
    have hcd3 : cd ≤ 9223372036854775807 := hcd2
    have hgge := HO1.out.ge
    have HGP : Hid (g ≠ PX) := Lib.hid fun e => by have := HO1.out.neT HR7.out (by decide); exact this (by rw [e]; rfl)
    have HGX : Hid (wo.heap.size ≤ g) := Lib.hid hgge.1
    have HXLT := Lib.hid (HX3W.out.lt)
    have hX1 : X + 1 < wo.heap.size := by have := HWO.out; omega
    have HX1 := Lib.hid hX1
    have HOD := Lib.hid (HO1.out.later (Below.refl _ _).drew)
    have HVR := Lib.hid ((HEV.out.later HBO.out).later (Below.refl w1.heap.size w1).drew)
    have HSL : ∀ W, (Instr.slice 22 (.slice (some ⟨g, 0, none⟩) nd cd) (some (.int .i64 O)) none none).run Try.prog W = .ok (.slice (some ⟨g, O, none⟩) (nd - O) (cd - O)) W := fun W => by
      have := run_sl_end W g 0 nd cd O (by omega) hcd1 (by omega)
      rw [Nat.zero_add] at this; exact this
    have hoN : O + n ≤ nd := hOM
    clear hevk hkind hcd2 hgge hor hrt hX1 y0 y1 y2 y3 y4 hed heo hOM
    obtain ⟨y0, y1, y2, y3, y4⟩ := HX3W.out.c5
    obtain ⟨z0, z1⟩ := HR7.out.c2
    go_upto_region 7 with fail
    go_region_law (refine step_ocopy (by rfl) (.tmp 34) (.tmp 36) (by rfl) g O nd cd wo s.data HOD.out HND.out a c n l HVR.out HN.out (by rfl) (by rfl) hoN ?_; intro v9 w9 o9 gr)
    all_goals
      have HDR : Hid (Below w1.heap.size w1 w1.drew) := Lib.hid (Below.refl _ _).drew
      have HRP := Lib.hid ((HR7.out.later HDR.out).grown gr (fun e => HGP.out (by cases e; rfl)))
      have HXR := Lib.hid ((HX4W.out.later HDR.out).grown gr (fun e => by cases e; have := HWO.out; have := HGX.out; omega))
      obtain ⟨cur, hcur⟩ := HOD.out.rec
      have HRO2 := Lib.hid ((HO2.out.later od_rel HDR.out).keptG od_rel gr HGX.out hcur (by decide) (fun b hb => by have := (HJO.out b hb).1; have := HWO.out; have := HGX.out; omega))
      have HBR := Lib.hid ((HBO.out.trans (HDR.out.mono HBO.out.size)).grown gr (HBO.out.trans (HDR.out.mono HBO.out.size)).size (fun q e => by cases e; exact HGX.out))
      have HST := Lib.hid (fin_st o9 HRO2.out HJN2.out HJN3.out)
      have HLB : Hid ((layB s.data O l).length = nd) := Lib.hid (by rw [layB_len (by rw [HN.out, HND.out]; exact hoN), HND.out])
      clear y0 y1 y2 y3 y4 z0 z1 gr o9 hcur
      obtain ⟨z0, z1⟩ := HRP.out.c2
      go_wp2_with (refine wpList_rec rfl rfl (X + 2) zeroSt #[.slice (some ⟨g, 0, none⟩) nd cd, .slice av s.snaps.length cv] rfl rfl HXR.out rfl (by kernel_rfl) (by simp [Value.oneCell']) ?_; intro w4 r1 r2 r3 r4)
      refine bodyPost_ret (results_ct rfl rfl r1 Try.underlying32 rfl (by kernel_rfl)) rfl ?_
      unfold ApplyIs
      rw [HAP.out, HDN.out]
      exact ⟨_, _, rfl, (HST.out.keep (fun b hb hj => r3 b (HJN1.out b hj).1) (Nat.le_of_eq r2.symm)).weak fun b _ hj => (HJN1.out b hj).2, (HB2.out.trans (HBR.out.mono HB2.out.size)).grown r4 (HB2.out.trans (HBR.out.mono HB2.out.size)).size (fun q e => by cases e; have := HXS.out; omega)⟩
  · have hcn : (CK != 0) = true := by simp [hc0]
    have HAP : Hid (applyM s ev = (noSx, CK)) := Lib.hid (by rw [applyM_no (by rw [HCKE.out]; exact hc0), HCKE.out])
    clear hc0
    go_wp2_with (refine wpList_rec rfl rfl (X + 2) zeroSt zeroSt rfl rfl HX4.out rfl (by kernel_rfl) (by kernel_rfl) ?_; intro w4 r1 r2 r3 r4)
    refine bodyPost_ret (results_ct rfl rfl r1 Try.underlying32 rfl (by kernel_rfl)) rfl ?_
    unfold ApplyIs
    rw [HAP.out]
    exact ⟨_, _, rfl, ⟨BQ.nil _ _, QRow.nil _ _⟩, HB2.out.grown r4 HB2.out.size (fun q e => by cases e; have := HXS.out; omega)⟩
-- TAIL
end Go.Proofs.Ytbpddcmehjgleaa
