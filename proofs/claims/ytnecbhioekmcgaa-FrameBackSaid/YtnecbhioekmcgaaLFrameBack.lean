/- The law 'FrameBack', walked. -/
import Derived.Test.YtnecbhioekmcgaaFrK
import Derived.Test.YtnecbhioekmcgaaFrE
import Derived.Test.YtnecbhioekmcgaaCrcKnown
namespace Go.Proofs.Ytnecbhioekmcgaa
open Go.RowKit
set_option linter.unusedVariables false
set_option linter.unusedSimpArgs false

/-! ### the rows, plain -/
def endL (es : List En) (j : Nat) : Nat := (rowL (es.take j)).length
theorem endL_zero (es : List En) : endL es 0 = 0 := rfl
theorem rowL_split {es : List En} {j : Nat} {e : En} (he : es[j]? = some e) : rowL es = rowL (es.take j) ++ (layL e ++ rowL (es.drop (j + 1))) := by
  obtain ⟨h, rfl⟩ := List.getElem?_eq_some_iff.1 he
  have h1 : es = es.take j ++ (es[j] :: es.drop (j + 1)) := by
    rw [← List.drop_eq_getElem_cons h, List.take_append_drop]
  conv => lhs; rw [h1]
  unfold rowL
  rw [List.flatMap_append, List.flatMap_cons]
theorem endL_succ {es : List En} {j : Nat} {e : En} (he : es[j]? = some e) : endL es (j + 1) = endL es j + (e.data.length + 22) := by
  unfold endL; rw [rowL_snoc es j e he, List.length_append, layL_len]
theorem endL_ge (es : List En) : ∀ j, j ≤ es.length → 22 * j ≤ endL es j
  | 0, _ => by simp
  | j + 1, h => by
    have := endL_ge es j (by omega)
    rw [endL_succ (List.getElem?_eq_getElem (show j < es.length by omega))]
    omega
theorem cut_all {es : List En} (hes : ∀ e ∈ es, e.right = true) {j k : Nat} (hj : j ≤ es.length) (h1 : endL es j ≤ k) (h2 : j = es.length ∨ k < endL es (j + 1)) (hk : k ≤ (rowL es).length) :
    allA ((rowL es).take k) = (es.take j, endL es j) := by
  have hr : ∀ e ∈ es.take j, e.right = true := fun e he => hes e (List.mem_of_mem_take he)
  have hge := endL_ge es j hj
  have hjl : (es.take j).length = j := by simp; omega
  have hlk : ((rowL es).take k).length = k := by rw [List.length_take]; omega
  unfold allA
  rw [hlk]
  by_cases hjn : j < es.length
  · obtain ⟨e, he⟩ : ∃ e, es[j]? = some e := ⟨es[j], List.getElem?_eq_getElem hjn⟩
    have hlt : k < endL es (j + 1) := by
      rcases h2 with h2 | h2
      · omega
      · exact h2
    rw [endL_succ he] at hlt
    have hsp : (rowL es).take k = [] ++ (rowL (es.take j) ++ ((some (e, k - endL es j)).map fun x : En × Nat => (layL x.1).take x.2).getD []) := by
      rw [rowL_split he, List.nil_append, List.take_append]
      rw [List.take_of_length_le (show (rowL (es.take j)).length ≤ k from h1), List.take_append]
      have h3 : k - (rowL (es.take j)).length - (layL e).length = 0 := by rw [layL_len]; unfold endL at hlt; omega
      rw [h3, List.take_zero, List.append_nil]
      rfl
    rw [hsp]
    have := all_row (es.take j) hr (some (e, k - endL es j)) (fun x y h => by cases h; exact ⟨hes e (List.mem_of_getElem? he), by omega⟩) [] (k + 1) (by omega)
    refine Eq.trans this ?_
    simp [endL]
  · have hjn2 : j = es.length := by omega
    subst hjn2
    have hend : endL es es.length = (rowL es).length := by unfold endL; rw [List.take_of_length_le (Nat.le_refl _)]
    have hk2 : k = (rowL es).length := by omega
    have hsp : (rowL es).take k = [] ++ (rowL (es.take es.length) ++ ((none : Option (En × Nat)).map fun x : En × Nat => (layL x.1).take x.2).getD []) := by
      rw [List.take_of_length_le (by omega), List.take_of_length_le (Nat.le_refl _)]; simp
    rw [hsp]
    have := all_row (es.take es.length) hr none (fun x y h => by cases h) [] (k + 1) (by omega)
    refine Eq.trans this ?_
    simp [endL]

theorem rowL_le (es : List En) (h : ∀ e ∈ es, e.right = true) : (rowL es).length ≤ 112 * es.length := by
  induction es with
  | nil => simp [rowL]
  | cons e es ih =>
    have h1 := (rightE_iff.1 (h e (List.mem_cons_self ..))).2.2.2.2
    have h2 := ih (fun x hx => h x (List.mem_cons_of_mem _ hx))
    unfold rowL at *
    rw [List.flatMap_cons, List.length_append, List.length_cons, layL_len]
    omega
theorem endL_le {es : List En} {j : Nat} (h : ∀ e ∈ es.take j, e.right = true) : endL es j ≤ 112 * j := by
  have h1 := rowL_le _ h
  have h2 : (es.take j).length ≤ j := by simp; omega
  unfold endL; omega

/-! ### two rows of one's own beside each other -/
section
variable {ops : Array Oper} {rest : List Oper} {o : Oper} {a : Act} {Q : Exit → Act → World → Prop}
theorem wp_row2 {w : World} (hgd : o.guard = none) (s x : Operand) (ho : o.op = .call { callee := .builtin .append, args := #[s, x], argTypes := #[22, 22] })
    (v : Value) (l : List UInt8) (hs : a.eval s = v) (W0 : World) (hown : Own W0 w v l) (ad : Option Addr) (cap n : Nat) (l2 : List UInt8) (hr : Row w ad cap l2) (hn : l2.length = n) (hx : a.eval x = .slice ad n cap) (hlen : l.length + l2.length ≤ 140737488355328)
    (h : ∀ v' w', Own W0 w' v' (l ++ l2) → w.grownBy w' v.ownBlock → (v'.ownBlock = v.ownBlock ∨ v'.ownBlock = some w.heap.size) → wpList Try.prog ops Q rest (a.put o.dst v') w') : wpList Try.prog ops Q (o :: rest) a w := by
  subst hn
  obtain ⟨i0, hi, hz0, hz1, hz2⟩ := info_parts info_u8
  cases ad with
  | none =>
    obtain ⟨rfl, rfl⟩ := hr.of_nil
    refine wpList_append_own_none hgd s x 22 ho W0.heap.size 5 i0 1 Try.underlying22 hi v _ _ hs hown.1 hx ?_
    exact h v w (by simpa using hown) ⟨rfl, rfl, rfl, Nat.le_refl _, fun _ _ _ => rfl⟩ (.inl rfl)
  | some y =>
    refine wpList_append_own_at w hgd s x 22 ho W0.heap.size 5 i0 (.int .u8 0) 1 1 Try.underlying22 hi hz0 hz1 hz2 rfl (by decide) v _ _ hs hown.1 y l2.length cap (l2.map B8) hx (by simp) ?_ ?_ (by unfold maxLen; omega) (by omega) hown.2.size ?_
    · intro j u hu
      rw [List.getElem?_map] at hu
      cases hj : l2[j]? with
      | none => rw [hj] at hu; cases hu
      | some z => rw [hj] at hu; simp at hu; subst hu; exact hr.2.2.2 y rfl j z hj
    · intro u hu
      simp at hu; obtain ⟨z, _, rfl⟩ := hu; rfl
    · intro v' w' ho' hg _ hat
      exact h v' w' (hown.grown (by simp) (by simp) ho' hg) hg hat
/-- Numbers in a row of one's own. -/
def IOwn (W0 w : World) (v : Value) (zs : List Nat) : Prop := w.ownsRow W0.heap.size 3 1 v zs.length (zs.map fun z : Nat => Value.int .i64 z) ∧ Below W0.heap.size W0 w
theorem info_i64 : (Try.prog.info? 3).map (fun i => (i.zero, i.size, i.bytes)) = some (some (.int .i64 0), 1, 8) := by kernel_rfl
theorem IOwn.nil (w : World) : IOwn w w (.slice .none 0 0) [] := ⟨World.ownsRow_nil _ _ _ _, Below.refl _ _⟩
theorem IOwn.later {W0 w w' : World} {v : Value} {zs : List Nat} (h : IOwn W0 w v zs) (hb : Below w.heap.size w w') : IOwn W0 w' v zs := by
  exact ⟨ownsRow_later h.1 hb, h.2.trans (hb.mono h.2.size)⟩
theorem IOwn.kept {W0 w w' : World} {v : Value} {zs : List Nat} {g : Option Nat} (h : IOwn W0 w v zs) (hg : w.grownBy w' g) (hne : v.ownBlock = none ∨ v.ownBlock ≠ g) (hge : ∀ k, g = some k → W0.heap.size ≤ k) : IOwn W0 w' v zs :=
  ⟨h.1.kept hg hne, h.2.grown hg h.2.size hge⟩
theorem Own.kept {W0 w w' : World} {v : Value} {l : List UInt8} {g : Option Nat} (h : Own W0 w v l) (hg : w.grownBy w' g) (hne : v.ownBlock = none ∨ v.ownBlock ≠ g) (hge : ∀ k, g = some k → W0.heap.size ≤ k) : Own W0 w' v l :=
  ⟨h.1.kept hg hne, h.2.grown hg h.2.size hge⟩
theorem IOwn.row_n {W0 w : World} {v : Value} {zs : List Nat} {n : Nat} (h : IOwn W0 w v zs) (hn : zs.length = n) : ∃ a cap, v = .slice a n cap ∧ n ≤ cap ∧ ∀ (i : Nat) z, zs[i]? = some z → ∃ g, a = some ⟨g, 0, .none⟩ ∧ w.cell? ⟨g, i, .none⟩ = some (.int .i64 (z : Nat)) := by
  subst hn
  rcases h.1.2 with ⟨hv, hn⟩ | ⟨g, cap, cur, hv, hb, hg, hn, hc, hs, ht⟩
  · have : zs = [] := List.length_eq_zero_iff.1 hn
    subst this
    exact ⟨.none, 0, hv, Nat.le_refl _, fun i z hz => by simp at hz⟩
  · refine ⟨_, cap, hv, hn, fun i z hz => ⟨g, rfl, ?_⟩⟩
    have hr := h.1
    rw [hv] at hr
    have hi := (List.getElem?_eq_some_iff.1 hz).1
    rw [hr.cellAt i (by omega), List.getElem?_map, hz]; rfl
theorem wp_num {w0 : World} (hgd : o.guard = none) (s x : Operand) (ho : o.op = .call { callee := .builtin .append, args := #[s, x], argTypes := #[40, 40] })
    (v : Value) (zs : List Nat) (hs : a.eval s = v) (W0 : World) (hown : IOwn W0 w0 v zs) (c : Int) (z : Nat) (hc : c = z) (hx : a.eval x = .slice (some ⟨w0.heap.size, 0, none⟩) 1 1) (hlen : zs.length + 1 ≤ 1000000)
    (h : ∀ v' w', IOwn W0 w' v' (zs ++ [z]) → (w0.alloc (.cells #[.int .i64 c] 3)).grownBy w' v.ownBlock → (v'.ownBlock = v.ownBlock ∨ v'.ownBlock = some (w0.heap.size + 1)) → wpList Try.prog ops Q rest (a.put o.dst v') w') : wpList Try.prog ops Q (o :: rest) a (w0.alloc (.cells #[.int .i64 c] 3)) := by
  subst hc
  obtain ⟨i0, hi, hz0, hz1, hz2⟩ := info_parts info_i64
  have h1 := hown.later ((Below.refl _ _).alloc (Nat.le_refl _) (.cells #[.int .i64 (z : Nat)] 3))
  have hrec := RecAt.new w0 #[.int .i64 (z : Nat)] 3
  refine wpList_append_own_at _ hgd s x 40 ho W0.heap.size 3 i0 (.int .i64 0) 1 8 Try.underlying40 hi hz0 hz1 hz2 rfl (by decide) v _ _ hs h1.1 ⟨w0.heap.size, 0, none⟩ 1 1 [.int .i64 (z : Nat)] hx rfl ?_ ?_ (by unfold maxLen; omega) (by omega) h1.2.size ?_
  · intro j u hu
    have e0 : (⟨w0.heap.size, 0, none⟩ : Addr).add j = ⟨w0.heap.size, j, none⟩ := by unfold Addr.add; split <;> simp_all
    rw [e0]
    exact hrec.cell (by simpa using hu)
  · intro u hu
    simp only [List.mem_cons, List.not_mem_nil, or_false] at hu
    rw [hu]; rfl
  · intro v' w' ho' hg _ hat
    refine h v' w' ⟨by simpa using ho', h1.2.grown hg h1.2.size (fun k hk => (World.ownsRow.lt h1.1 k hk).1)⟩ hg ?_
    rcases hat with e1 | e1
    · exact .inl e1
    · right; rw [e1]; simp
end

theorem cell_later {w w' : World} {a : Addr} {v : Value} (h : w.cell? a = some v) (hb : Below w.heap.size w w') : w'.cell? a = some v := by
  rw [hb.cell (World.block_lt_of_cell? w _ h)]; exact h
/-- The ends of the first j frames. -/
def endsL (es : List En) (j : Nat) : List Nat := (List.range j).map fun i => endL es (i + 1)
theorem endsL_len (es : List En) (j : Nat) : (endsL es j).length = j := by simp [endsL]
theorem endsL_succ (es : List En) (j : Nat) : endsL es (j + 1) = endsL es j ++ [endL es (j + 1)] := by simp [endsL, List.range_succ]
theorem endsL_get (es : List En) {i j : Nat} (h : i < j) : (endsL es j)[i]? = some (endL es (i + 1)) := by
  unfold endsL; rw [List.getElem?_map, List.getElem?_range h]; rfl
/-- What the first loop holds. -/
structure BkI (W0 w : World) (es : List En) (j : Nat) (vb ve : Value) : Prop where
  b : Own W0 w vb (rowL (es.take j))
  e : IOwn W0 w ve (endsL es j)
  ne : ∀ x, vb.ownBlock = some x → ve.ownBlock ≠ some x
  right : ∀ e ∈ es.take j, e.right = true

theorem BkI.ends {W0 wr w2 w5 : World} {es : List En} {j : Nat} {u5 u6 : Value} (I : BkI W0 wr es j u5 u6) (hwr : Below wr.heap.size wr w2) (g5 : w2.grownBy w5 u5.ownBlock) : IOwn W0 w5 u6 (endsL es j) := by
  refine (I.e.later hwr).kept g5 ?_ (fun k hk => (I.b.1.lt k hk).1)
  cases h6 : u6.ownBlock with
  | none => exact .inl rfl
  | some y => exact .inr (fun h => I.ne y h.symm h6)
theorem BkI.next {W0 wr w2 w5 w6 : World} {es : List En} {j : Nat} {e : En} {u5 u6 v5 v6 : Value} {c : Int} (I : BkI W0 wr es j u5 u6) (hje : es[j]? = some e) (hr : e.right = true) (hwr : Below wr.heap.size wr w2)
    (o5 : Own W0 w5 v5 (rowL (es.take j) ++ layL e)) (g5 : w2.grownBy w5 u5.ownBlock) (at5 : v5.ownBlock = u5.ownBlock ∨ v5.ownBlock = some w2.heap.size)
    (e6 : IOwn W0 w6 v6 (endsL es j ++ [endL es (j + 1)])) (g6 : (w5.alloc (.cells #[.int .i64 c] 3)).grownBy w6 u6.ownBlock) (at6 : v6.ownBlock = u6.ownBlock ∨ v6.ownBlock = some (w5.heap.size + 1)) : BkI W0 w6 es (j + 1) v5 v6 := by
  have hE := I.ends hwr g5
  have hs25 := g5.size
  have ne1 : ∀ x, v5.ownBlock = some x → u6.ownBlock ≠ some x := by
    intro x hx h6
    rcases at5 with h | h
    · rw [h] at hx; exact I.ne x hx h6
    · rw [h] at hx
      cases hx
      have := (World.ownsRow.lt I.e.1 _ h6).2
      have := hwr.size
      omega
  refine ⟨?_, by rw [endsL_succ]; exact e6, ?_, ?_⟩
  · rw [rowL_snoc es j e hje]
    refine (o5.alloc _).kept g6 ?_ (fun k hk => (World.ownsRow.lt hE.1 k hk).1)
    cases h5 : v5.ownBlock with
    | none => exact .inl rfl
    | some x => exact .inr (fun h => ne1 x h5 h.symm)
  · intro x hx h6
    rcases at6 with h | h
    · rw [h] at h6; exact ne1 x hx h6
    · rw [h] at h6
      cases h6
      have := (o5.1.lt _ hx).2
      omega
  · intro x hx
    obtain ⟨h, rfl⟩ := List.getElem?_eq_some_iff.1 hje
    rw [List.take_succ_eq_append_getElem h, List.mem_append] at hx
    rcases hx with h1 | h1
    · exact I.right x h1
    · have : x = es[j] := by simpa using h1
      rw [this]; exact hr

set_option maxRecDepth 100000 in
set_option maxHeartbeats 3200000 in
theorem back_known (a0 : Option Addr) (n c0 : Nat) (p : Int) (w : World) (hb : 12 < n ∨ p < 0) :
    Calls Try.prog 5 #[.slice a0 n c0, .int .i64 p] w fun x w' => x = .returned (.bool true) ∧ Below w.heap.size w w' := by
  rcases (show 12 < (n : Int) ∨ (decide (12 < (n : Int)) = false ∧ p < 0) by simp only [decide_eq_false_iff_not]; omega) with h | ⟨h1, h⟩
  all_goals
    clear hb
    go_enter Try.func5, Try.ntmps5
    go_wp2_with fail
    refine (known_any _).mono ?_
    rintro y w2 ⟨rfl, hb2⟩
    go_wp2_with fail
    go_ret
    exact ⟨rfl, hb2⟩

set_option maxRecDepth 100000 in
set_option maxHeartbeats 6400000 in
theorem back_walk (a0 : Option Addr) (n c0 : Nat) (es : List En) (P : Nat) (w : World) (he : ERow w a0 c0 es) (hn : es.length = n) (hn0 : 0 < n) (hn12 : n ≤ 12) (hP : (P : Int) ≤ 9223372036854775807) :
    Calls Try.prog 5 #[.slice a0 n c0, .int .i64 P] w fun x w' => x = .returned (.bool true) ∧ Below w.heap.size w w' := by
  have hd1 : decide (12 < (n : Int)) = false := by simp; omega
  have hd2 : decide ((P : Int) < 0) = false := by simp
  have HE := Lib.hid he
  have HN := Lib.hid hn
  have hc0 := he.1
  rw [hn] at hc0
  clear he hn
  go_enter Try.func5, Try.ntmps5
  go_wp2_with fail
  go_loopw [5, 6, 7] (fun vb ve i wr => ∃ j : Nat, i = .int .i64 j ∧ j ≤ n ∧ BkI w wr es j vb ve) (fun _ _ i _ => n - (intOf i).toNat)
  case atStart => exact ⟨0, rfl, by omega, ⟨Own.nil w, IOwn.nil w, fun x h => (by cases h), fun e h => (by simp at h)⟩⟩
  case round =>
    obtain ⟨j, rfl, hj, I⟩ := hrel
    by_cases hjn : (j : Int) < n
    · obtain ⟨e, hje⟩ : ∃ e, es[j]? = some e := ⟨es[j]'(by have := HN.out; omega), List.getElem?_eq_getElem _⟩
      obtain ⟨b1, o1, d1, k1, rfl, p0, p1, p2, R1⟩ := (HE.out.later I.b.below).at hje
      have hl9 : e.data.length ≤ 9223372036854775807 := by have := R1.1; have := R1.2.1; unfold maxLen at this; omega
      have LA := Lib.hid (lay_any e d1 k1 _ wr R1 rfl hl9)
      have RA := Lib.hid (fun W => right_any e.tag e.seq d1 e.data.length k1 W hl9)
      have HROW := Lib.hid (rowL_snoc es j e hje)
      have HEND := Lib.hid (endL_succ hje)
      have HJE := Lib.hid hje
      have HTK : Hid (∀ x ∈ es.take (j + 1), x ∈ es.take j ∨ x = e) := Lib.hid fun x hx => by
        obtain ⟨h, rfl⟩ := List.getElem?_eq_some_iff.1 hje
        rw [List.take_succ_eq_append_getElem h, List.mem_append] at hx
        rcases hx with h1 | h1
        · exact .inl h1
        · exact .inr (by simpa using h1)
      have HI := Lib.hid I
      clear hje R1 I
      cases hr : e.right with
      | false =>
        rw [layA_no hr] at LA
        unfold En.right at hr
        rw [hr] at RA
        clear hr
        go_wp2_with fail
        refine LA.out.mono ?_
        rintro y w1 ⟨v1, rfl, o9⟩
        simp only at o9 ⊢
        have hb1 := o9.below
        obtain ⟨a9, k9, rfl, r9⟩ := o9.row_n (n := 0) rfl
        have HB1 := Lib.hid (HI.out.b.below.trans (hb1.mono HI.out.b.below.size))
        have q0 := cell_later p0 hb1
        have q1 := cell_later p1 hb1
        have q2 := cell_later p2 hb1
        clear p0 p1 p2 hb1 o9 r9 LA
        go_wp2_with fail
        refine (RA.out _).mono ?_
        rintro y w2 ⟨rfl, hb2⟩
        have HB2 := Lib.hid (HB1.out.trans (hb2.mono HB1.out.size))
        clear hb2 q0 q1 q2
        go_wp2_with fail
        refine (known_any _).mono ?_
        rintro y w3 ⟨rfl, hb3⟩
        go_wp2_with fail
        go_ret
        exact ⟨rfl, HB2.out.trans (hb3.mono HB2.out.size)⟩
      | true =>
        have hn9 := (rightE_iff.1 hr).2.2.2.2
        have HRE := Lib.hid hr
        have HLL := Lib.hid (layL_len e)
        rw [layA_yes hr] at LA
        unfold En.right at hr
        rw [hr] at RA
        clear hr
        have HSZ : Hid (min (max ((e.data.length : Nat) : Int) 0) 90 + 22 = ((e.data.length : Nat) : Int) + 22) := Lib.hid (by omega)
        generalize hL : e.data.length = L at *
        have HEL := Lib.hid hL
        clear hL
        go_wp2_with fail
        refine LA.out.mono ?_
        rintro y w1 ⟨v1, rfl, o9⟩
        simp only at o9 ⊢
        have hb1 := o9.below
        obtain ⟨a9, k9, rfl, r9⟩ := o9.row_n HLL.out
        have q0 := cell_later p0 hb1
        have q1 := cell_later p1 hb1
        have q2 := cell_later p2 hb1
        have HB1 := Lib.hid (HI.out.b.below.trans (hb1.mono HI.out.b.below.size))
        have HWR := Lib.hid hb1
        have HR9 := Lib.hid r9
        clear p0 p1 p2 hb1 o9 r9 LA
        go_wp2_with fail
        refine (RA.out _).mono ?_
        rintro y w2 ⟨rfl, hb2⟩
        have s0 := cell_later q0 hb2
        have s1 := cell_later q1 hb2
        have s2 := cell_later q2 hb2
        have HB2 := Lib.hid (HB1.out.trans (hb2.mono HB1.out.size))
        have HR9' := Lib.hid (HR9.out.later hb2)
        have HWR2 := Lib.hid (HWR.out.trans (hb2.mono HWR.out.size))
        clear hb2 q0 q1 q2 RA HR9 HWR
        go_wp2_with fail
        refine (size_any _ _).mono ?_
        rw [HSZ.out]
        rintro y w3 ⟨rfl, rfl⟩
        clear s0 s1 s2 HSZ
        have O2 := Lib.hid (HI.out.b.later HWR2.out)
        have HRL : Hid ((rowL (es.take j)).length = endL es j) := Lib.hid rfl
        have HEM : Hid (endL es j + (L + 22) ≤ 1344) := Lib.hid (by have := endL_le HI.out.right; omega)
        go_upto_region 14 with (at_builtin; refine wp_row2 rfl _ _ rfl u5 _ rfl w O2.out a9 k9 (L + 22) (layL e) HR9'.out HLL.out rfl (by have := HRL.out; have := HLL.out; have := HEM.out; omega) ?_; intro v5 w5 o5 g5 at5)
        have E5 := Lib.hid (HI.out.ends HWR2.out g5)
        have HO5 := Lib.hid o5
        have HG5 := Lib.hid g5
        have HA5 := Lib.hid at5
        obtain ⟨a5, k5, rfl, r5⟩ := o5.row_n (n := endL es j + (L + 22)) (by rw [List.length_append, HLL.out, HRL.out])
        clear o5 g5 at5 r5
        generalize endL es j + (L + 22) = Z at *
        go_wp2_with (at_builtin; refine wp_num rfl _ _ rfl u6 _ rfl w E5.out _ Z ?hc rfl ?hl ?_; (case hc => first | rfl | (simp; done)); (case hl => rw [endsL_len]; omega); intro v6 w6 e6 g6 at6)
        go_roundw
        case rel => exact ⟨j + 1, by go_num, by omega, HI.out.next HJE.out HRE.out HWR2.out HO5.out HG5.out HA5.out (by rw [HEND.out]; exact e6) g6 at6⟩
        case measure => simp [intOf]; omega
    · obtain rfl : j = n := by omega
      obtain ⟨B, hB⟩ : ∃ B, rowL es = B := ⟨_, rfl⟩
      have hBt : rowL (es.take j) = B := by rw [List.take_of_length_le (by rw [HN.out]; exact Nat.le_refl _), hB]
      have hrt : ∀ e ∈ es, e.right = true := fun e he => I.right e (by rw [List.take_of_length_le (by rw [HN.out]; exact Nat.le_refl _)]; exact he)
      have HRT := Lib.hid hrt
      obtain ⟨N, hN⟩ : ∃ N, B.length = N := ⟨_, rfl⟩
      have hN2 : N ≤ 1344 := by have := rowL_le es hrt; rw [hB, hN, HN.out] at this; omega
      have HBB := Lib.hid hB
      have HBL := Lib.hid hN
      have oB := I.b
      rw [hBt] at oB
      obtain ⟨a6, c6, rfl, hc6, hcl⟩ := I.e.row_n (endsL_len es j)
      have HB := Lib.hid oB.below
      generalize j = n at *
      obtain ⟨K, hK, hKN⟩ : ∃ K : Nat, (P : Int) % ((N : Int) + 1) = K ∧ K ≤ N := by
        have h1 := Int.emod_nonneg (P : Int) (show ((N : Int) + 1) ≠ 0 by omega)
        have h2 := Int.emod_lt_of_pos (P : Int) (show 0 < ((N : Int) + 1) by omega)
        exact ⟨((P : Int) % ((N : Int) + 1)).toNat, by omega, by omega⟩
      have HKL : Hid ((B.take K).length = K) := Lib.hid (by rw [List.length_take, hN]; omega)
      clear hBt hrt I
      rcases oB.1.2 with ⟨hv, hn0⟩ | ⟨g5, k5, cur, hv, hb, hg, hncap, hc, hs, ht⟩
      · exfalso
        have h1 := endL_ge es n (by rw [HN.out]; exact Nat.le_refl _)
        have h2 : endL es n = N := by unfold endL; rw [List.take_of_length_le (by rw [HN.out]; exact Nat.le_refl _), HBB.out, hN]
        omega
      · rw [hN] at hv hncap
        subst hv
        have HRB : Hid (Row wr (some ⟨g5, 0, .none⟩) k5 (B.take K)) := Lib.hid (by obtain ⟨a5, c5, h1, h2⟩ := oB.row_n hN; cases h1; exact h2.take K)
        have hKk : (K : Int) ≤ k5 := by omega
        clear oB hg hs ht hb
        go_upto_region 16 with fail
        rw [hK]
        clear hK
        go_wp2_with fail
        refine (all_any (some ⟨g5, 0, none⟩) K k5 _ wr HRB.out HKL.out (by omega)).mono ?_
        rintro y w1 ⟨v1, rfl, e1⟩
        obtain ⟨a1, c1, rfl, E1⟩ := e1.row
        have HB1 := Lib.hid (HB.out.trans (e1.below.mono HB.out.size))
        have HE1 := Lib.hid E1
        have HC1 := Lib.hid (fun (i z : Nat) (hz : (endsL es n)[i]? = some z) => by obtain ⟨g, h1, h2⟩ := hcl i z hz; exact (⟨g, h1, cell_later h2 e1.below⟩ : ∃ g, a6 = some ⟨g, 0, none⟩ ∧ w1.cell? ⟨g, i, none⟩ = some (.int .i64 (z : Nat))))
        have HH1 := Lib.hid (HE.out.later HB1.out)
        clear e1 E1 hcl
        generalize hA1 : (allA (B.take K)).1 = A1 at *
        generalize hA2 : (allA (B.take K)).2 = A2 at *
        have HA := Lib.hid (show allA (B.take K) = (A1, A2) by rw [← hA1, ← hA2])
        clear hA1 hA2
        go_wp2_with fail
        go_loop [13] (fun i => ∃ q : Nat, i = .int .i64 q ∧ q ≤ n ∧ endL es q ≤ K) (fun i => n - (intOf i).toNat)
        case atStart => exact ⟨0, rfl, by omega, by rw [endL_zero]; omega⟩
        case round =>
          obtain ⟨q, rfl, hq, hqk⟩ := hrel
          by_cases hqn : (q : Int) < n
          · obtain ⟨g, rfl, hg⟩ := HC1.out q (endL es (q + 1)) (endsL_get es (by omega))
            have hqc : (q : Int) < c6 := by omega
            by_cases hle : ((endL es (q + 1) : Nat) : Int) ≤ (K : Int)
            · go_wp2_with fail
              go_round
              case rel => exact ⟨q + 1, by go_num, by omega, by omega⟩
              case measure => simp [intOf]; omega
            · have hdn : decide (((endL es (q + 1) : Nat) : Int) ≤ (K : Int)) = false := decide_eq_false hle
              have HCUT := Lib.hid (cut_all HRT.out (j := q) (k := K) (by rw [HN.out]; exact hq) hqk (.inr (by omega)) (by rw [HBB.out, HBL.out]; omega))
              obtain ⟨xb, xo, _, _, ha0, _, _, _, _⟩ := HH1.out.at (i := q) (e := es[q]'(by rw [HN.out]; omega)) (List.getElem?_eq_getElem _)
              subst ha0
              have hAQ : A1 = es.take q ∧ A2 = endL es q := by
                have h1 := HCUT.out
                rw [HBB.out, HA.out] at h1
                exact ⟨congrArg Prod.fst h1, congrArg Prod.snd h1⟩
              have HQL : Hid ((es.take q).length = q) := Lib.hid (by rw [List.length_take, HN.out]; omega)
              obtain ⟨rfl, rfl⟩ := hAQ
              have HE2 := Lib.hid HE1.out
              have hqc0 : (q : Int) ≤ c0 := by omega
              clear HA HCUT
              rw [HQL.out]
              rcases (show q = 0 ∨ ∃ r, q = r + 1 by cases q with | zero => exact .inl rfl | succ r => exact .inr ⟨r, rfl⟩) with rfl | ⟨r, rfl⟩
              · rw [endL_zero]
                go_wp2_with fail
                refine (same_any a1 (some ⟨xb, xo, none⟩) 0 c1 c0 (es.take 0) _ HE2.out (HH1.out.take 0) HQL.out (by omega)).mono ?_
                rintro y w2 ⟨rfl, hb2⟩
                have HB2 := Lib.hid (HB1.out.trans (hb2.mono HB1.out.size))
                clear hb2
                go_wp2_with fail
                refine (known_any _).mono ?_
                rintro y w3 ⟨rfl, hb3⟩
                go_wp2_with fail
                go_ret
                exact ⟨rfl, HB2.out.trans (hb3.mono HB2.out.size)⟩
              · obtain ⟨g7, hg7, hz7⟩ := HC1.out r (endL es (r + 1)) (endsL_get es (by omega))
                cases hg7
                have hr6 : (r : Int) < n := by omega
                have HZ7 := Lib.hid hz7
                clear hz7
                generalize endL es (r + 1) = Z7 at *
                have hr0 : (0 : Int) < (r : Int) + 1 := by omega
                go_wp2_with fail
                refine (same_any a1 (some ⟨xb, xo, none⟩) (r + 1) c1 c0 (es.take (r + 1)) _ HE2.out (HH1.out.take (r + 1)) HQL.out (by omega)).mono ?_
                rintro y w2 ⟨rfl, hb2⟩
                have HB2 := Lib.hid (HB1.out.trans (hb2.mono HB1.out.size))
                have hz8 := cell_later HZ7.out hb2
                obtain ⟨R, hR⟩ : ∃ R : Int, (r : Int) + 1 = R := ⟨_, rfl⟩
                rw [hR]
                have hR1 : 1 ≤ R ∧ R ≤ 12 := by omega
                obtain ⟨hR1, hR2⟩ := hR1
                have hz9 : (R == 0) = false := by simp; omega
                have hz10 : decide (0 < R) = true := by simp; omega
                have hRm : R - 1 = (r : Int) := by omega
                clear hb2 hR hr0
                go_wp2_with fail
                refine (known_any _).mono ?_
                rintro y w3 ⟨rfl, hb3⟩
                go_wp2_with fail
                go_ret
                exact ⟨rfl, HB2.out.trans (hb3.mono HB2.out.size)⟩
          · have hdq : decide ((q : Int) < (n : Int)) = false := decide_eq_false hqn
            obtain rfl : q = n := by omega
            have HCUT := Lib.hid (cut_all HRT.out (j := q) (k := K) (by rw [HN.out]; exact hq) hqk (.inl HN.out.symm) (by rw [HBB.out, HBL.out]; omega))
            cases a0 with
            | none => exact absurd (HE.out.2.2.1 rfl) (by omega)
            | some xa =>
              have hAQ : A1 = es.take q ∧ A2 = endL es q := by
                have h1 := HCUT.out
                rw [HBB.out, HA.out] at h1
                exact ⟨congrArg Prod.fst h1, congrArg Prod.snd h1⟩
              have HQL : Hid ((es.take q).length = q) := Lib.hid (by rw [List.length_take, HN.out]; omega)
              obtain ⟨rfl, rfl⟩ := hAQ
              have HE2 := Lib.hid HE1.out
              have hqc0 : (q : Int) ≤ c0 := by omega
              clear HA HCUT
              rw [HQL.out]
              rcases (show q = 0 ∨ ∃ r, q = r + 1 by cases q with | zero => exact .inl rfl | succ r => exact .inr ⟨r, rfl⟩) with rfl | ⟨r, rfl⟩
              · rw [endL_zero]
                go_wp2_with fail
                refine (same_any a1 (some xa) 0 c1 c0 (es.take 0) _ HE2.out (HH1.out.take 0) HQL.out (by omega)).mono ?_
                rintro y w2 ⟨rfl, hb2⟩
                have HB2 := Lib.hid (HB1.out.trans (hb2.mono HB1.out.size))
                clear hb2
                go_wp2_with fail
                refine (known_any _).mono ?_
                rintro y w3 ⟨rfl, hb3⟩
                go_wp2_with fail
                go_ret
                exact ⟨rfl, HB2.out.trans (hb3.mono HB2.out.size)⟩
              · obtain ⟨g7, hg7, hz7⟩ := HC1.out r (endL es (r + 1)) (endsL_get es (by omega))
                cases hg7
                have hr6 : (r : Int) < (r : Int) + 1 := by omega
                have HZ7 := Lib.hid hz7
                clear hz7
                generalize endL es (r + 1) = Z7 at *
                have hr0 : (0 : Int) < (r : Int) + 1 := by omega
                go_wp2_with fail
                refine (same_any a1 (some xa) (r + 1) c1 c0 (es.take (r + 1)) _ HE2.out (HH1.out.take (r + 1)) HQL.out (by omega)).mono ?_
                rintro y w2 ⟨rfl, hb2⟩
                have HB2 := Lib.hid (HB1.out.trans (hb2.mono HB1.out.size))
                have hz8 := cell_later HZ7.out hb2
                obtain ⟨R, hR⟩ : ∃ R : Int, (r : Int) + 1 = R := ⟨_, rfl⟩
                rw [hR]
                have hR1 : 1 ≤ R ∧ R ≤ 12 := by omega
                obtain ⟨hR1, hR2⟩ := hR1
                have hz9 : (R == 0) = false := by simp; omega
                have hz10 : decide (0 < R) = true := by simp; omega
                have hRm : R - 1 = (r : Int) := by omega
                clear hb2 hR hr0
                go_wp2_with fail
                refine (known_any _).mono ?_
                rintro y w3 ⟨rfl, hb3⟩
                go_wp2_with fail
                go_ret
                exact ⟨rfl, HB2.out.trans (hb3.mono HB2.out.size)⟩

set_option maxRecDepth 100000 in
set_option maxHeartbeats 3200000 in
theorem back_walk0 (a0 : Option Addr) (c0 P : Nat) (w : World) (hc : c0 ≤ maxLen) (hnc : a0 = none → c0 = 0) (hP : (P : Int) ≤ 9223372036854775807) :
    Calls Try.prog 5 #[.slice a0 0 c0, .int .i64 P] w fun x w' => x = .returned (.bool true) ∧ Below w.heap.size w w' := by
  have hd2 : decide ((P : Int) < 0) = false := by simp
  have hA0 : allA [] = ([], 0) := by unfold allA; rw [allF_end (by decide)]
  have HE : Hid (ERow w a0 c0 []) := Lib.hid ⟨by simp, hc, hnc, fun x hx i e he => by simp at he⟩
  have HAL := Lib.hid (all_any .none 0 0 [] w (Row.none _) rfl (by omega))
  rw [hA0] at HAL
  clear hc
  have key : a0 = none ∧ c0 = 0 ∨ ∃ x, a0 = some x := by
    cases a0 with
    | none => exact .inl ⟨rfl, hnc rfl⟩
    | some x => exact .inr ⟨x, rfl⟩
  rcases key with ⟨rfl, rfl⟩ | ⟨x, rfl⟩
  all_goals
    clear hnc hA0
    go_enter Try.func5, Try.ntmps5
    go_wp2_with fail
    refine wp_loop_rounds 1 ?_
    rw [rounds_succ]
    go_wp2_with fail
    refine HAL.out.mono ?_
    rintro y w1 ⟨v1, rfl, e1⟩
    obtain ⟨a1, c1, rfl, E1⟩ := e1.row_n (n := 0) rfl
    have HB1 := Lib.hid e1.below
    have HE1 := Lib.hid E1
    have HH1 := Lib.hid (HE.out.later e1.below)
    clear e1 E1 HAL
    rw [show ((0 : Nat) : Int) = 0 from rfl]
    go_wp2_with fail
    refine wp_loop_rounds 1 ?_
    rw [rounds_succ]
    go_wp2_with fail
    refine (same_any a1 _ 0 c1 _ [] w1 HE1.out HH1.out rfl (by omega)).mono ?_
    rintro y w2 ⟨rfl, hb2⟩
    have HB2 := Lib.hid (HB1.out.trans (hb2.mono HB1.out.size))
    clear hb2
    go_wp2_with fail
    refine (known_any _).mono ?_
    rintro y w3 ⟨rfl, hb3⟩
    go_wp2_with fail
    go_ret
    exact ⟨rfl, HB2.out.trans (hb3.mono HB2.out.size)⟩

theorem frameBack_walk (a0 : Option Addr) (n c0 : Nat) (es : List En) (p : Int) (w : World) (he : RowE w 3 (EnE w) a0 c0 es) (hn : es.length = n) (w1 : (Lit.int .i64 p).wf = true) :
    Calls Try.prog 5 #[.slice a0 n c0, .int .i64 p] w fun x w' => x = .returned (.bool true) ∧ Below w.heap.size w w' := by
  have hp := wf_int w1
  by_cases hb : 12 < n ∨ p < 0
  · exact back_known a0 n c0 p w hb
  · obtain ⟨P, rfl⟩ := Int.eq_ofNat_of_zero_le (show 0 ≤ p by omega)
    by_cases hn0 : n = 0
    · subst hn0
      exact back_walk0 a0 c0 P w he.2.1 he.2.2.1 hp.2
    · exact back_walk a0 n c0 es P w he.erow hn (by omega) (by omega) hp.2
end Go.Proofs.Ytnecbhioekmcgaa
