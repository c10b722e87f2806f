/- Scans: the program's Merge, with a map. -/
import Derived.Test.YtabeleihpnnadaaScM
import Derived.Test.YtabeleihpnnadaaIMap
namespace Go.Proofs.Ytabeleihpnnadaa
open Go.RowKit Go.Proofs
set_option linter.unusedVariables false
set_option linter.unusedSimpArgs false
set_option linter.unnecessarySimpa false

theorem NRow.inj {α : Type} {sz : Nat} {tE tS : TypeId} {E : Rel α} {J : Nat → Prop} {w : World} {a : Option Addr} {n cap : Nat} {ts : List α} (h : NRow J sz tE tS E w (.slice a n cap) ts) : InJ J w a := by
  obtain ⟨css, a', cap', hv, h1, h3, h2⟩ := h
  simp only [Value.slice.injEq] at hv
  obtain ⟨rfl, rfl, rfl⟩ := hv
  exact h3
/-- What lies in blocks from wm's end to w2's stays till wr. -/
def Gr (wm w2 wr : World) : Prop := w2.heap.size ≤ wr.heap.size ∧ ∀ b, b < w2.heap.size → wm.heap.size ≤ b → wr.heap[b]? = w2.heap[b]?
theorem Gr.refl (wm w2 : World) : Gr wm w2 w2 := ⟨Nat.le_refl _, fun _ _ _ => rfl⟩
theorem Gr.later {wm w2 wr w' : World} (h : Gr wm w2 wr) (hb : Below wr.heap.size wr w') : Gr wm w2 w' := ⟨Nat.le_trans h.1 hb.size, fun b h1 h2 => by rw [hb.block b (Nat.lt_of_lt_of_le h1 h.1)]; exact h.2 b h1 h2⟩
theorem Gr.grown {wm w2 wr w' : World} {B : Nat} (h : Gr wm w2 wr) (hg : wr.grownBy w' (some B)) (hB : B < wm.heap.size) : Gr wm w2 w' := ⟨Nat.le_trans h.1 hg.size, fun b h1 h2 => by
  rw [hg.block b (Nat.lt_of_lt_of_le h1 h.1) (by intro e; simp only [Option.some.injEq] at e; omega)]; exact h.2 b h1 h2⟩
def dataJ (wm w2 : World) : Nat → Prop := fun b => wm.heap.size ≤ b ∧ b < w2.heap.size
/-- What the map holds of the entries es. -/
def Fd (wm w2 : World) (es : List En) (f : Int → Option Value) : Prop := ∀ s, ik s → (pickE es s = none → f s = none) ∧ ∀ e, pickE es s = some e → ∃ a c, f s = some (.agg #[.int .i64 e.tag, .int .i64 e.seq, .slice a e.data.length c]) ∧ Row w2 a c e.data ∧ InJ (dataJ wm w2) w2 a
theorem pick_take_keep {es : List En} {s : Int} {j : Nat} {e e0 : En} (h : es[j]? = some e) (h0 : pickE (es.take j) s = some e0) : pickE (es.take (j + 1)) s = some e0 := by
  obtain ⟨hj, rfl⟩ := List.getElem?_eq_some_iff.1 h
  rw [List.take_succ_eq_append_getElem hj, pick_app, h0]; rfl
theorem pick_take_new {es : List En} {s : Int} {j : Nat} {e : En} (h : es[j]? = some e) (h0 : pickE (es.take j) s = none) (h1 : e.seq = s) : pickE (es.take (j + 1)) s = some e := by
  obtain ⟨hj, rfl⟩ := List.getElem?_eq_some_iff.1 h
  rw [List.take_succ_eq_append_getElem hj, pick_app, h0]
  simp [pickE, h1]
theorem Fd.same {wm w2 : World} {es : List En} {f : Int → Option Value} {j : Nat} {e e0 : En} (h : Fd wm w2 (es.take j) f) (he : es[j]? = some e) (h0 : pickE (es.take j) e.seq = some e0) : Fd wm w2 (es.take (j + 1)) f := fun s hs => by
  have hh := h s hs
  cases hp : pickE (es.take j) s with
  | none =>
    have hne : e.seq ≠ s := fun c => by rw [c, hp] at h0; cases h0
    rw [pick_take_no he hp hne]
    exact ⟨fun _ => hh.1 hp, fun e h => by cases h⟩
  | some e1 =>
    rw [pick_take_keep he hp]
    exact ⟨fun h => (by cases h), fun e2 h2 => by cases h2; exact hh.2 e1 hp⟩
theorem Fd.new {wm w2 : World} {es : List En} {f : Int → Option Value} {j : Nat} {e : En} (h : Fd wm w2 (es.take j) f) (he : es[j]? = some e) (h0 : pickE (es.take j) e.seq = none) {a : Option Addr} {c : Nat} (hr : Row w2 a c e.data) (hj : InJ (dataJ wm w2) w2 a) :
    Fd wm w2 (es.take (j + 1)) (updI f e.seq (some (.agg #[.int .i64 e.tag, .int .i64 e.seq, .slice a e.data.length c]))) := fun s hs => by
  have hh := h s hs
  by_cases c0 : s = e.seq
  · subst c0
    rw [pick_take_new he h0 rfl, updI_same]
    exact ⟨fun h => (by cases h), fun e2 h2 => by cases h2; exact ⟨a, c, rfl, hr, hj⟩⟩
  · rw [updI_other _ _ c0]
    cases hp : pickE (es.take j) s with
    | none =>
      rw [pick_take_no he hp (fun e => c0 e.symm)]
      exact ⟨fun _ => hh.1 hp, fun e h => by cases h⟩
    | some e1 =>
      rw [pick_take_keep he hp]
      exact ⟨fun h => (by cases h), fun e2 h2 => by cases h2; exact hh.2 e1 hp⟩
abbrev zeE : Value := .agg #[.int .i64 0, .int .i64 0, .slice none 0 0]
theorem zero_en (w : World) : (zeroValue 38).run Try.prog w = .ok zeE w := by kernel_rfl

set_option maxRecDepth 20000 in
set_option maxHeartbeats 12800000 in
theorem merge_any (a : Option Addr) (n cap : Nat) (rows : List (List UInt8)) (from_ : Int) (w : World) (hr : SRow w a cap rows) (hn : rows.length = n) (hb : SB rows) (hf0 : -9223372036854775808 ≤ from_) (hf1 : from_ ≤ 9223372036854775807) :
    Calls Try.prog 11 #[.slice a n cap, .int .i64 from_] w fun e w' => ∃ v, e = .returned v ∧ OE (fromJ w) w w' v (mergeS rows from_) := by
  have hmm := @run_makeMap Try.prog
  have hbm : Below w.heap.size w (w.alloc (.map #[] 0)) := (Below.refl _ _).alloc (Nat.le_refl _) _
  have HIM0 := Lib.hid (IMap.made w)
  have HBM := Lib.hid hbm
  have hszm : (w.alloc (.map #[] 0)).heap.size = w.heap.size + 1 := by simp
  have HK := Lib.hid (entries_any a n cap rows (w.alloc (.map #[] 0)) (hr.later hbm) hn hb)
  have HM : Hid (mergeS rows from_ = mergeE (entsS rows) from_) := Lib.hid (mergeS_eq rows from_)
  have HRI := Lib.hid (entsS_right rows)
  have hel := entsS_len hb.2 n
  rw [List.take_of_length_le (by omega)] at hel
  have hn100 : n ≤ 100 := by have := hb.1; omega
  generalize entsS rows = es at *
  clear hr hn hb hbm
  go_enter Try.func11, Try.ntmps11
  go_upto_region 2 with fail
  clear hmm
  obtain ⟨wm, hwm⟩ : ∃ W, w.alloc (.map #[] 0) = W := ⟨_, rfl⟩
  rw [hwm] at HIM0 HBM HK hszm ⊢
  obtain ⟨B, hB⟩ : ∃ B, w.heap.size = B := ⟨_, rfl⟩
  rw [hB] at HIM0 hszm ⊢
  have HBW := Lib.hid hB
  clear hwm hB
  go_wp2_with fail
  refine HK.out.mono ?_
  rintro e1 w2 ⟨v1, rfl, o1⟩
  obtain ⟨N, hN⟩ : ∃ N, es.length = N := ⟨_, rfl⟩
  rw [hN] at hel
  have HN := Lib.hid hN
  obtain ⟨a2, c2, rfl⟩ := o1.val enT_ok hN
  have HL := Lib.hid (o1.row enT_ok en_rel (fromJ_new _))
  have HB2 := Lib.hid (HBM.out.trans (o1.below.mono HBM.out.size))
  have HIM := Lib.hid (HIM0.out.later o1.below)
  have hcap := HL.out.erow.2.1
  rw [hN] at hcap
  have hsz2 := o1.below.size
  clear o1 HK hN HIM0
  go_wp2_with fail
  go_loopw [18] (fun i wr => ∃ (j k : Nat) (f : Int → Option Value), i = .int .i64 j ∧ j ≤ N ∧ k ≤ j ∧ Below w.heap.size w wr ∧ Gr wm w2 wr ∧ IMap wr B f k ∧ Hid (Fd wm w2 (es.take j) f)) (fun i _ => N - (intOf i).toNat)
  case atStart => exact ⟨0, 0, fun _ => none, rfl, by omega, by omega, HB2.out, Gr.refl _ _, HIM.out, Lib.hid (fun s _ => ⟨fun _ => rfl, fun e h => by cases h⟩)⟩
  case round =>
    obtain ⟨j, k, f, rfl, hj, hk, hbw, hgr, him, HF⟩ := hrel
    have HBR := Lib.hid hbw
    have HG := Lib.hid hgr
    have HIR := Lib.hid him
    clear hbw hgr him
    by_cases hjn : (j : Int) < N
    · obtain ⟨e, he⟩ : ∃ e, es[j]? = some e := ⟨es[j]'(by have := HN.out; omega), List.getElem?_eq_getElem _⟩
      have hri := rightE_iff.1 (HRI.out e (List.mem_of_getElem? he))
      obtain ⟨b3, o3, cs, ha3, hcl, ⟨v3, rfl, a4, c4, rfl, hr4, hj4⟩, hcc⟩ := HL.out.at he
      have hin := HL.out.inj
      subst ha3
      have hb3 := hin _ rfl
      have hc4 : ∀ (q : Nat) v, [Value.int .i64 e.tag, .int .i64 e.seq, .slice a4 e.data.length c4][q]? = some v → wr.cell? ⟨b3, o3 + j * 3 + q, none⟩ = some v := fun q v hv => by
        rw [← hcc q v hv]; exact World.cell?_of_block (HG.out.2 b3 hb3.1 hb3.2)
      have p0 := hc4 0 _ rfl
      have p1 := hc4 1 _ rfl
      have p2 := hc4 2 _ rfl
      rw [Nat.add_zero] at p0
      have hik : ik e.seq := by unfold ik; have := hri.2.2.1; have := hri.2.2.2.1; omega
      have HJ4 : Hid (InJ (dataJ wm w2) w2 a4) := Lib.hid fun x hx => ⟨(hj4 x hx).1, (hj4 x hx).2, (hj4 x hx).1⟩
      clear hcc hc4 hcl hin hj4
      have hba := (Below.refl wr.heap.size wr).alloc (Nat.le_refl _) (.cells #[.int .i64 e.tag, .int .i64 e.seq, .slice a4 e.data.length c4] 38)
      have hlk := (HIR.out.later hba).look Try.underlying46 zero_en hik
      cases hp : pickE (es.take j) e.seq with
      | some e0 =>
        obtain ⟨a0, c0, hf0', _, _⟩ := (HF.out e.seq hik).2 e0 hp
        rw [hf0'] at hlk
        simp only [Option.getD_some, Option.isSome_some] at hlk
        have HF2 := Lib.hid (HF.out.same he hp)
        clear hf0' hp he hr4 HJ4
        generalize e.data.length = L at *
        generalize e0.data.length = L0 at *
        generalize e.seq = T at *
        generalize e.tag = T2 at *
        generalize e0.seq = S0 at *
        generalize e0.tag = S2 at *
        have HBX := Lib.hid (((Below.refl wr.heap.size wr).alloc (Nat.le_refl _) (.cells #[.int .i64 T2, .int .i64 T, .slice a4 L c4] 38)).alloc (by simp) (.cells #[.int .i64 S2, .int .i64 S0, .slice a0 L0 c0] 38))
        clear hba
        go_wp2_with fail
        go_roundw
        case rel => exact ⟨j + 1, k, f, by go_num, by omega, by omega, HBR.out.trans (HBX.out.mono HBR.out.size), HG.out.later HBX.out, HIR.out.later HBX.out, HF2⟩
        case measure => simp [intOf]; omega
      | none =>
        have hf0' := (HF.out e.seq hik).1 hp
        rw [hf0'] at hlk
        simp only [Option.getD_none, Option.isSome_none] at hlk
        have hbx := hba.alloc (by simp) (.cells #[.int .i64 0, .int .i64 0, .slice none 0 0] 38)
        obtain ⟨w5, hput, him5, hg5⟩ := (HIR.out.later hbx).put Try.underlying46 (by unfold maxLen; omega) hik (.agg #[.int .i64 e.tag, .int .i64 e.seq, .slice a4 e.data.length c4])
        have HF2 := Lib.hid (HF.out.new he hp hr4 HJ4.out)
        have HB5 : Hid (Below w.heap.size w w5) := Lib.hid ((HBR.out.trans (hbx.mono HBR.out.size)).grown hg5 (HBR.out.trans (hbx.mono HBR.out.size)).size (fun q hq => by cases hq; have := HBW.out; omega))
        have HG5 : Hid (Gr wm w2 w5) := Lib.hid ((HG.out.later hbx).grown hg5 (by omega))
        have HI5 := Lib.hid him5
        clear hf0' hp he hr4 HJ4 hbx hba him5 hg5
        generalize e.data.length = L at *
        generalize e.seq = T at *
        generalize e.tag = T2 at *
        go_wp2_with fail
        go_roundw
        case rel => exact ⟨j + 1, k + 1, _, by go_num, by omega, by omega, HB5.out, HG5.out, HI5.out, HF2⟩
        case measure => simp [intOf]; omega
    · have HFF : Hid (Fd wm w2 es f) := Lib.hid (by have := HF.out; rwa [List.take_of_length_le (by have := HN.out; omega)] at this)
      obtain ⟨w3, hw3⟩ : ∃ W, W = wr := ⟨_, rfl⟩
      subst hw3
      clear HF
      have hsz3 := HG.out.1
      go_wp2_with fail
      go_loopw [10, 11] (fun v q wr => ∃ (s : Int) (acc : List En), q = .int .i64 s ∧ ik s ∧ OE (fromJ w) w3 wr v acc ∧ Hid (mergeE es from_ = acc ++ mergeE es s) ∧ fromC es s + acc.length ≤ N) (fun _ q _ => fromC es (intOf q))
      case atStart => exact ⟨from_, [], rfl, ⟨hf0, hf1⟩, NOwn.nil' (Below.refl _ _), Lib.hid (by simp), by have := fromC_le es from_; simp; have := HN.out; omega⟩
      case round =>
        obtain ⟨s, acc, rfl, hik, o, HA, hfc⟩ := hrel
        have HO := Lib.hid o
        have HFC := Lib.hid hfc
        have hlk := (HIR.out.later o.below).look Try.underlying46 zero_en hik
        clear o hfc
        cases hp : pickE es s with
        | none =>
          have hf0' := (HFF.out s hik).1 hp
          rw [hf0'] at hlk
          simp only [Option.getD_none, Option.isSome_none] at hlk
          have HR : Hid (mergeE es from_ = acc) := Lib.hid (by rw [HA.out, mergeE_none hp, List.append_nil])
          clear hf0' hp HA
          go_wp2_with fail
          go_ret
          exact ⟨_, rfl, by rw [HM.out, HR.out]; exact (HO.out.later en_rel ((Below.refl _ _).alloc (Nat.le_refl _) _)).back HBR.out⟩
        | some e =>
          obtain ⟨a0, c0, hf0', hr0, hj0⟩ := (HFF.out s hik).2 e hp
          rw [hf0'] at hlk
          simp only [Option.getD_some, Option.isSome_some] at hlk
          have hst := fromC_step hp
          have hsq := (pickE_seq hp).1
          have hri := rightE_iff.1 (HRI.out e (pickE_seq hp).2)
          have HR : Hid (mergeE es from_ = acc ++ [e] ++ mergeE es (s + 1)) := Lib.hid (by rw [HA.out, mergeE_some hp]; simp)
          have hk1 : acc.length + 1 ≤ N := by have := HFC.out; omega
          have hfc1 : fromC es (s + 1) + (acc.length + 1) ≤ N := by have := HFC.out; omega
          have hik1 : ik (s + 1) := by unfold ik; have := hri.2.2.1; have := hri.2.2.2.1; omega
          have hs1 : s + 1 ≤ 9223372036854775807 := hik1.2
          have hs0 : -9223372036854775808 ≤ s + 1 := hik1.1
          have hba := (Below.refl wr.heap.size wr).alloc (Nat.le_refl _) (.cells #[.int .i64 e.tag, .int .i64 e.seq, .slice a0 e.data.length c0] 38)
          have HEN : Hid (EnR (lessJ (fromJ w) u10) (wr.alloc (.cells #[.int .i64 e.tag, .int .i64 e.seq, .slice a0 e.data.length c0] 38)) [.int .i64 e.tag, .int .i64 e.seq, .slice a0 e.data.length c0] e) := Lib.hid (en_rel.weak (en_rel.keep (J := dataJ wm w2) (w := w2) ⟨_, rfl, a0, c0, rfl, hr0, hj0⟩ (fun b hb1 hb2 => by
              rw [hba.block b (Nat.lt_of_lt_of_le hb1 (Nat.le_trans hsz3 HO.out.below.size)), HO.out.below.block b (Nat.lt_of_lt_of_le hb1 hsz3)]
              exact HG.out.2 b hb1 hb2.1) (Nat.le_trans hsz3 (Nat.le_trans HO.out.below.size hba.size))) (fun b _ hb2 => ⟨by
              have h1 := hb2.1
              have h2 := HBM.out.size
              show w.heap.size ≤ b
              omega, fun hh => by
              have h5 := (HO.out.lt hh.symm).1
              have h6 := hb2.2
              omega⟩))
          have HO2 := Lib.hid (HO.out.later en_rel hba)
          have HE2 := Lib.hid (RecAt.new wr #[.int .i64 e.tag, .int .i64 e.seq, .slice a0 e.data.length c0] 38)
          clear hf0' hp HA hri hba hr0 hj0
          obtain ⟨L, hL⟩ : ∃ L, e.data.length = L := ⟨_, rfl⟩
          rw [hL] at HEN HO2 HE2 hlk
          have hIB : ∀ u ∈ (#[Value.int .i64 e.tag, .int .i64 e.seq, .slice a0 L c0] : Array Value).toList, u.oneCell' = true := by intro u hu; simp only [List.mem_cons, List.not_mem_nil, or_false] at hu; rcases hu with rfl | rfl | rfl <;> rfl
          clear hsq
          go_upto_region 15 with fail
          generalize (wr.alloc (.cells #[.int .i64 e.tag, .int .i64 e.seq, .slice a0 L c0] 38)) = w7 at *
          generalize wr.heap.size = X at *
          obtain ⟨k0, k1, k2⟩ := HE2.out.c3
          go_wp2_with (at_builtin; refine wp_non1 enT_ok en_rel rfl _ _ rfl u10 acc rfl w3 HO2.out e HEN.out rfl hIB rfl (by omega) ?_; intro v9 w9 o9)
          go_roundw
          case rel => exact ⟨s + 1, acc ++ [e], by go_num, hik1, o9, HR, by simpa using hfc1⟩
          case measure => simp only [intOf]; omega
end Go.Proofs.Ytabeleihpnnadaa
