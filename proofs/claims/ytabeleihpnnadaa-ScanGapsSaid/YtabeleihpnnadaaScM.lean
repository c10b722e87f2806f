/- Scans: Merge, the document's and the program's; maps from numbers to values. -/
import Derived.Test.YtabeleihpnnadaaScC
import Derived.Maps.OwnSet
import Derived.Maps.Keyed
namespace Go.Proofs.Ytabeleihpnnadaa
open Go.RowKit Go.Proofs
set_option linter.unusedVariables false
set_option linter.unusedSimpArgs false
set_option linter.unnecessarySimpa false

/-! ### the document's -/
theorem mergeS_eq (rows : List (List UInt8)) (s : Int) : mergeS rows s = mergeE (entsS rows) s := by
  unfold mergeS
  split
  · rename_i h
    symm
    apply mergeE_none
    cases hp : pickE (entsS rows) s with
    | none => rfl
    | some e =>
      have h1 := pickE_seq hp
      have h2 := (rightE_iff.1 (entsS_right rows e h1.2)).2.2.1
      omega
  · rfl
theorem pick_take_no {es : List En} {s : Int} {j : Nat} {e : En} (h : es[j]? = some e) (h0 : pickE (es.take j) s = none) (h1 : e.seq ≠ s) : pickE (es.take (j + 1)) s = none := by
  obtain ⟨hj, rfl⟩ := List.getElem?_eq_some_iff.1 h
  rw [List.take_succ_eq_append_getElem hj, pick_app, h0]
  simp [pickE, h1]
theorem pick_take_yes {es : List En} {s : Int} {j : Nat} {e : En} (h : es[j]? = some e) (h0 : pickE (es.take j) s = none) (h1 : e.seq = s) : pickE es s = some e := by
  obtain ⟨hj, rfl⟩ := List.getElem?_eq_some_iff.1 h
  have h2 : pickE (es.take j ++ es.drop j) s = some es[j] := by
    rw [List.drop_eq_getElem_cons hj, pick_app, h0]
    simp only [pickE, List.find?_cons, h1, decide_true, Option.none_or]
  rwa [List.take_append_drop] at h2
theorem pick_take_all {es : List En} {s : Int} {j : Nat} (h : es.length ≤ j) (h0 : pickE (es.take j) s = none) : pickE es s = none := by rwa [List.take_of_length_le h] at h0

set_option maxRecDepth 20000 in
set_option maxHeartbeats 6400000 in
theorem rmerge_any (a : Option Addr) (n cap : Nat) (rows : List (List UInt8)) (from_ : Int) (w : World) (hr : SRow w a cap rows) (hn : rows.length = n) (hb : SB rows) (hf1 : from_ ≤ 9223372036854775807) :
    Calls Try.prog 12 #[.slice a n cap, .int .i64 from_] w fun e w' => ∃ v, e = .returned v ∧ OE (fromJ w) w w' v (mergeS rows from_) := by
  have HR := Lib.hid hr
  have HN := Lib.hid hn
  have HB := Lib.hid hb
  have hn100 : n ≤ 100 := by have := hb.1; omega
  have HRI := Lib.hid (entsS_right rows)
  clear hr hn hb
  by_cases hf0 : from_ < 1
  · have HM : Hid (mergeS rows from_ = []) := Lib.hid (by unfold mergeS; rw [if_pos hf0])
    have hfd : decide (from_ < 1) = true := decide_eq_true hf0
    go_enter Try.func12, Try.ntmps12
    go_wp2_with fail
    go_ret
    exact ⟨_, rfl, by rw [HM.out]; exact NOwn.nil' (Below.refl _ _)⟩
  · have HM : Hid (mergeS rows from_ = mergeE (entsS rows) from_) := Lib.hid (by unfold mergeS; rw [if_neg hf0])
    have hfd : decide (from_ < 1) = false := decide_eq_false hf0
    go_enter Try.func12, Try.ntmps12
    go_wp2_with fail
    go_loopw [6, 7] (fun v i wr => ∃ (j : Nat) (es : List En), i = .int .i64 j ∧ j ≤ n ∧ es.length ≤ 10000 * j ∧ OE (fromJ w) w wr v es ∧ Hid (es = entsS (rows.take j))) (fun _ i _ => n - (intOf i).toNat)
    case atStart => exact ⟨0, [], rfl, by omega, by simp, NOwn.nil' (Below.refl _ _), Lib.hid rfl⟩
    case round =>
      obtain ⟨j, es, rfl, hj, hes, o, HE⟩ := hrel
      by_cases hjn : (j : Int) < n
      · have hjn2 : decide ((j : Int) < n) = true := decide_eq_true hjn
        obtain ⟨l, hl⟩ : ∃ l, rows[j]? = some l := ⟨rows[j]'(by have := HN.out; omega), List.getElem?_eq_getElem _⟩
        obtain ⟨b1, o1, a1, c1, rfl, p0, R1⟩ := (HR.out.later o.below).at hl
        have hll := HB.out.2 l (List.mem_of_getElem? hl)
        have HS := Lib.hid (entsS_snoc hl)
        have hal := allA_len l
        obtain ⟨m, hm⟩ : ∃ m, l.length = m := ⟨_, rfl⟩
        rw [hm] at p0 hll hal
        have HK := Lib.hid (rall_new a1 m c1 l wr R1 hm (by omega))
        obtain ⟨us, hus⟩ : ∃ us, (allA l).1 = us := ⟨_, rfl⟩
        rw [hus] at HK hal HS
        clear hl hm hus R1
        have HO := Lib.hid o
        clear o
        go_wp2_with fail
        refine HK.out.mono ?_
        rintro e1 w1 ⟨v1, rfl, o1⟩
        obtain ⟨m1, hm1⟩ : ∃ m1, us.length = m1 := ⟨_, rfl⟩
        obtain ⟨a2, c2, rfl⟩ := o1.val enT_ok hm1
        have HX : Hid (NRow (lessJ (fromJ w) u6) 3 38 26 EnR w1 (.slice a2 m1 c2) us) := Lib.hid (NRow.weak en_rel (o1.row enT_ok en_rel (fromJ_new _)) fun b _ hb => ⟨Nat.le_trans HO.out.below.size hb, HO.out.ne_old hb⟩)
        have HO1 := Lib.hid (HO.out.later en_rel o1.below)
        clear o1 p0 HK
        go_wp2_with (at_builtin; refine wp_nons enT_ok en_rel rfl _ _ rfl u6 es rfl w HO1.out us a2 m1 c2 rfl HX.out (by omega) ?_; intro v9 w9 o9 _)
        go_roundw
        case rel => exact ⟨j + 1, es ++ us, by go_num, by omega, by rw [List.length_append]; omega, o9, Lib.hid (by rw [HS.out, HE.out])⟩
        case measure => simp [intOf]; omega
      · have hjn2 : decide ((j : Int) < n) = false := decide_eq_false hjn
        have HF : Hid (es = entsS rows) := Lib.hid (by rw [HE.out, List.take_of_length_le (by have := HN.out; omega)])
        obtain ⟨w3, hw3⟩ : ∃ W, W = wr := ⟨_, rfl⟩
        subst hw3
        rw [← HF.out] at HM HRI
        have hes2 : es.length ≤ 1000000 := by omega
        obtain ⟨N, hN⟩ : ∃ N, es.length = N := ⟨_, rfl⟩
        rw [hN] at hes2
        have HNN := Lib.hid hN
        obtain ⟨a2, c2, rfl⟩ := o.val enT_ok hN
        have HL := Lib.hid (o.row enT_ok en_rel (fromJ_new _))
        have HER := Lib.hid HL.out.erow.2
        have HBB := Lib.hid o.below
        have hcap := HER.out.1
        rw [hN] at hcap
        clear o hN HE HF hes
        go_wp2_with fail
        go_loopw [5, 10] (fun v q wr => ∃ (k : Nat) (acc : List En), q = .int .i64 k ∧ acc.length = k ∧ OE (fromJ w) w3 wr v acc ∧ Hid (mergeE es from_ = acc ++ mergeE es (from_ + k)) ∧ fromC es (from_ + k) + k ≤ N) (fun _ q _ => N + 1 - (intOf q).toNat)
        case atStart => exact ⟨0, [], rfl, rfl, NOwn.nil' (Below.refl _ _), Lib.hid (by simp), by have := fromC_le es from_; simp; have := HNN.out; omega⟩
        case round =>
          obtain ⟨k, acc, rfl, hk, o, HA, hfc⟩ := hrel
          have HO := Lib.hid o
          have HFC := Lib.hid hfc
          have hkN : k ≤ N := by omega
          have hkd : decide ((k : Int) ≤ N) = true := decide_eq_true (by omega)
          have HPN : Hid (pickE es (from_ + k) = none → mergeE es from_ = acc) := Lib.hid fun h => by rw [HA.out, mergeE_none h, List.append_nil]
          have HPS : Hid (∀ e, pickE es (from_ + k) = some e → mergeE es from_ = acc ++ [e] ++ mergeE es (from_ + (k + 1 : Nat)) ∧ fromC es (from_ + (k + 1 : Nat)) + (k + 1) ≤ N) := Lib.hid fun e h => by
            have h1 := fromC_step h
            have e1 : from_ + ((k + 1 : Nat) : Int) = from_ + k + 1 := by omega
            rw [e1]
            refine ⟨?_, by have := HFC.out; omega⟩
            rw [HA.out, mergeE_some h]; simp
          obtain ⟨w4, hw4⟩ : ∃ W, W = wr := ⟨_, rfl⟩
          subst hw4
          clear o hfc HA
          go_wp2_with fail
          go_loopw [5, 11, 12] (fun v f i wr => ∃ (j : Nat), i = .int .i64 j ∧ j ≤ N ∧ ((f = .bool false ∧ v = u5 ∧ w4 = wr ∧ Hid (pickE (es.take j) (from_ + k) = none)) ∨ (f = .bool true ∧ ∃ e, OE (fromJ w) w3 wr v (acc ++ [e]) ∧ Hid (pickE es (from_ + k) = some e)))) (fun _ _ i _ => N - (intOf i).toNat)
          case atStart => exact ⟨0, rfl, by omega, .inl ⟨rfl, rfl, rfl, Lib.hid rfl⟩⟩
          case round =>
            obtain ⟨j, rfl, hj, hcs⟩ := hrel
            rcases hcs with ⟨rfl, rfl, rfl, HP⟩ | ⟨rfl, e, o2, HP⟩
            · by_cases hjn : (j : Int) < N
              · have hjn2 : decide ((j : Int) < N) = true := decide_eq_true hjn
                have hjl : j < es.length := by have := HNN.out; omega
                obtain ⟨e, he⟩ : ∃ e, es[j]? = some e := ⟨es[j], List.getElem?_eq_getElem _⟩
                have hri := rightE_iff.1 (HRI.out e (List.mem_of_getElem? he))
                have HNO := Lib.hid (pick_take_no he HP.out)
                have HYE := Lib.hid (pick_take_yes he HP.out)
                obtain ⟨b3, o3, cs, ha3, hcl, ⟨v3, rfl, a4, c4, rfl, hr4, hj4⟩, hcc⟩ := HL.out.at he
                subst ha3
                have hb4 := HO.out.below
                have hc4 : ∀ (q : Nat) v, [Value.int .i64 e.tag, .int .i64 e.seq, .slice a4 e.data.length c4][q]? = some v → w4.cell? ⟨b3, o3 + j * 3 + q, none⟩ = some v := fun q v hv => by
                  have h1 := hcc q v hv
                  rw [hb4.cell (World.block_lt_of_cell? w3 _ h1)]; exact h1
                have p0 := hc4 0 _ rfl
                have p1 := hc4 1 _ rfl
                have p2 := hc4 2 _ rfl
                rw [Nat.add_zero] at p0
                have hsq := hri.2.2.1
                have hsq2 := hri.2.2.2.1
                clear hcc hc4 hri
                by_cases hs : e.seq = from_ + k
                · have hd : (e.seq - from_ == (k : Int)) = true := by rw [beq_iff_eq]; omega
                  have HPE := Lib.hid (HYE.out hs)
                  have hk1 : k + 1 ≤ N := by have := (HPS.out e HPE.out).2; omega
                  have HEN : Hid (EnR (lessJ (fromJ w) u5) w4 [.int .i64 e.tag, .int .i64 e.seq, .slice a4 e.data.length c4] e) := Lib.hid ⟨_, rfl, a4, c4, rfl, hr4.later hb4, fun y hy => ⟨Nat.lt_of_lt_of_le (hj4 y hy).1 hb4.size, (hj4 y hy).2, fun hh => by
                    have h5 := (HO.out.lt hh.symm).1
                    have h6 := (hj4 y hy).1
                    omega⟩⟩
                  clear HNO HYE he hs hr4 hj4 hb4
                  obtain ⟨L, hL⟩ : ∃ L, e.data.length = L := ⟨_, rfl⟩
                  rw [hL] at p2 HEN
                  have hIB : ∀ u ∈ (#[Value.int .i64 e.tag, .int .i64 e.seq, .slice a4 L c4] : Array Value).toList, u.oneCell' = true := by intro u hu; simp only [List.mem_cons, List.not_mem_nil, or_false] at hu; rcases hu with rfl | rfl | rfl <;> rfl
                  go_wp2_with (at_builtin; refine wp_non1 enT_ok en_rel rfl _ _ rfl u5 acc rfl w3 HO.out e HEN.out rfl hIB rfl (by omega) ?_; intro v9 w9 o9)
                  go_roundw
                  case rel => exact ⟨j + 1, by go_num, by omega, .inr ⟨rfl, e, o9, HPE⟩⟩
                  case measure => simp [intOf]; omega
                · have hd : (e.seq - from_ == (k : Int)) = false := by rw [beq_eq_false_iff_ne]; omega
                  have HPE := Lib.hid (HNO.out hs)
                  clear HNO HYE he hs hr4 hj4 hb4
                  go_wp2_with fail
                  go_roundw
                  case rel => exact ⟨j + 1, by go_num, by omega, .inl ⟨rfl, rfl, trivial, HPE⟩⟩
                  case measure => simp [intOf]; omega
              · have hjn2 : decide ((j : Int) < N) = false := decide_eq_false hjn
                have HF := Lib.hid (HPN.out (pick_take_all (by have := HNN.out; omega) HP.out))
                go_wp2_with fail
                go_ret
                exact ⟨_, rfl, by rw [HM.out, HF.out]; exact HO.out.back HBB.out⟩
            · have h2 := HPS.out e HP.out
              have HF := Lib.hid h2.1
              have HF2 := Lib.hid h2.2
              clear h2
              by_cases hjn : (j : Int) < N
              · have hjn2 : decide ((j : Int) < N) = true := decide_eq_true hjn
                go_wp2_with fail
                go_roundw
                case rel => exact ⟨k + 1, acc ++ [e], by go_num, by simp; omega, o2, HF, HF2.out⟩
                case measure => simp [intOf]; omega
              · have hjn2 : decide ((j : Int) < N) = false := decide_eq_false hjn
                go_wp2_with fail
                go_roundw
                case rel => exact ⟨k + 1, acc ++ [e], by go_num, by simp; omega, o2, HF, HF2.out⟩
                case measure => simp [intOf]; omega
end Go.Proofs.Ytabeleihpnnadaa
