/- Images: the program's own done: a state of one's own behind an event. -/
import Derived.Test.YtbpddcmehjgleaaGMa
import Derived.Test.YtbpddcmehjgleaaGMb
namespace Go.Proofs.Ytbpddcmehjgleaa
open Go.RowKit Go.Proofs
set_option linter.unusedVariables false
set_option linter.unusedSimpArgs false
set_option linter.unnecessarySimpa false

/-! ### bytes written in their place -/
theorem own_laid {W0 w : World} {g n cap : Nat} {l d : List UInt8} {off : Nat} (h : Own W0 w (.slice (some ⟨g, 0, none⟩) n cap) l) (hn : l.length = n) (hfit : off + d.length ≤ n) :
    ∃ cur, w.heap[g]? = some (.cells cur 5 (0, 0)) ∧ off + d.length ≤ cur.size ∧ Own W0 (w.setRow g (cur.toList.take off ++ d.map B8 ++ cur.toList.drop (off + d.length)).toArray) (.slice (some ⟨g, 0, none⟩) n cap) (layB l off d) := by
  subst hn
  have hgl := h.ge
  unfold layB
  rw [← List.append_assoc]
  rcases h.1.2 with ⟨hv, _⟩ | ⟨g', cap', cur, hv, hb, hg, hnc, hcm, hs, ht⟩
  · cases hv
  · simp only [Value.slice.injEq, Option.some.injEq, Addr.mk.injEq, and_true, true_and] at hv
    obtain ⟨rfl, rfl⟩ := hv
    have hcs : cur.size = cap := by omega
    have hcl : cur.toList.length = cap := by simp [hcs]
    refine ⟨cur, hg, by omega, ⟨?_, ?_⟩⟩
    · have hlen : (l.take off ++ d ++ l.drop (off + d.length)).length = l.length := by simp; omega
      refine ⟨by simp, .inr ⟨g, cap, _, by rw [hlen], hb, setRow_heap w g cur _ _ _ hg, by rw [hlen]; exact hnc, hcm, ?_, ?_⟩⟩
      · simp only [List.size_toArray, List.length_append, List.length_take, List.length_drop, List.length_map, hcl]
        omega
      · rw [hlen]
        simp only [Nat.mul_one] at ht ⊢
        have e1 : cur.toList.take off = (l.take off).map B8 := by
          rw [List.map_take, ← ht, List.take_take]
          congr 1; omega
        have e2 : (cur.toList.drop (off + d.length)).take (l.length - (off + d.length)) = (l.drop (off + d.length)).map B8 := by
          rw [List.map_drop, ← ht, List.drop_take]
        have hl1 : ((l.take off).map B8).length = off := by simp; omega
        have hl3 : (d.map B8).length = d.length := by simp
        rw [e1]
        rw [show l.length = off + d.length + (l.length - (off + d.length)) by omega, List.take_append, List.length_append, hl1, hl3, List.take_of_length_le (by rw [List.length_append, hl1, hl3]; omega), show off + d.length + (l.length - (off + d.length)) - (off + d.length) = l.length - (off + d.length) by omega, e2]
        simp
    · exact h.2.grown (grown_setRow w g _) h.2.size (fun k e => by cases e; exact hb)
theorem run_copyB (W : World) (g off dn dc : Nat) (y : Addr) (sn sc : Nat) (cur : Array Value) (p : List UInt8) (hg : W.heap[g]? = some (.cells cur 5 (0, 0))) (hp : p.length = Nat.min sn dn) (hsrc : ∀ j u, p[j]? = some u → W.cell? (y.add j) = some (B8 u)) (hfit : off + p.length ≤ cur.size) (ty : TypeId) :
    (Builtin.copy_ #[22, 22] ty #[.slice (some ⟨g, off, none⟩) dn dc, .slice (some y) sn sc]).run Try.prog W = .ok (goInt p.length) (W.setRow g (cur.toList.take off ++ p.map B8 ++ cur.toList.drop (off + p.length)).toArray) := by
  have hdl : (p.map B8).length = p.length := by simp
  have := run_copy_row (P := Try.prog) W 22 22 ty 5 g off dn dc y sn sc cur 5 (p.map B8) Try.underlying22 (by kernel_rfl) hg (by rw [hdl]; exact hp) (fun j v hv => by
    rw [List.getElem?_map] at hv
    cases hj : p[j]? with
    | none => rw [hj] at hv; cases hv
    | some u => rw [hj] at hv; simp at hv; subst hv; exact hsrc j u hj) (by rw [hdl]; exact hfit) (fun v hv => by simp at hv; obtain ⟨u, _, rfl⟩ := hv; rfl)
  rw [hdl] at this
  exact this
theorem run_clearB (W : World) (g off n c : Nat) (cur : Array Value) (hg : W.heap[g]? = some (.cells cur 5 (0, 0))) (hn : 0 < n) (hfit : off + n ≤ cur.size) (ty : TypeId) :
    (Builtin.clear_ #[22] ty #[.slice (some ⟨g, off, none⟩) n c]).run Try.prog W = .ok (.tuple #[]) (W.setRow g (cur.toList.take off ++ (List.replicate n (0 : UInt8)).map B8 ++ cur.toList.drop (off + n)).toArray) := by
  have hz : ∀ W, (zeroValue 5).run Try.prog W = .ok (.int .u8 0) W := fun W => by kernel_rfl
  have hzc : (Builtin.zeroCells (Value.int IntKind.u8 0).cells n).toList = (List.replicate n (0 : UInt8)).map B8 := by
    rw [show (Value.int IntKind.u8 0).cells = #[.int .u8 0] from rfl, List.map_replicate]
    simp [Builtin.zeroCells]
    apply List.ext_getElem
    · simp
    · intro i h1 h2
      simp [Nat.mod_one, B8]
  have hst := run_storeCells_at Try.prog g off 5 ((List.replicate n (0 : UInt8)).map B8) 0 cur W hg (by simpa using hfit) (fun v hv => by simp at hv; rw [hv.2]; rfl)
  simp only [Nat.add_zero, List.length_map, List.length_replicate] at hst
  obtain ⟨m, rfl⟩ : ∃ m, n = m + 1 := ⟨n - 1, by omega⟩
  rw [List.map_replicate] at hzc hst ⊢
  simp [Builtin.clear_, run_underlying Try.underlying22, hz, hzc, hst]
theorem Own.atG {W0 w : World} {v : Value} {l : List UInt8} {n : Nat} (h : Own W0 w v l) (hn : l.length = n) (h0 : 0 < n) : ∃ g cap, v = .slice (some ⟨g, 0, none⟩) n cap ∧ n ≤ cap ∧ cap ≤ maxLen ∧ W0.heap.size ≤ g ∧ g < w.heap.size := by
  subst hn
  rcases h.1.2 with ⟨hv, hz⟩ | ⟨g, cap, cur, hv, hb, hg, hn, hc, hs, ht⟩
  · omega
  · exact ⟨g, cap, hv, hn, hc, hb, (Array.getElem?_eq_some_iff.1 hg).1⟩
theorem mdexec_copy {P : Program} {w w' : World} {a : Act} {o : Oper} {s x : Operand} {t tn : TypeId} {vs vx v' : Value} (ho : o.op = .call { callee := .builtin .copy, args := #[s, x], argTypes := #[t, tn] }) (hs : a.eval s = vs) (hx : a.eval x = vx)
    (hr : (Builtin.copy_ #[t, tn] o.type #[vs, vx]).run P w = .ok v' w') : (execOp a.eval o).run P w = .ok (.value v') w' := by
  unfold execOp
  simp only [ho, resolve, invoke, builtin, Sem.run_bind, Sem.run_pure, Result.andThen_ok, List.map_toArray, List.map_cons, List.map_nil, hs, hx, hr]
def DoneIs (W0 w : World) (d v : Value) (s : Sx) (e : Ending) (w' : World) : Prop := ∃ d' v', e = .returned (.agg #[d', v']) ∧ OwS W0 w' d' v' s ∧ KeepS w w' d v
theorem write_fits {s : Sx} {o m : Int} {l : List UInt8} {T : List UInt8} (h : checkM s ⟨1, o, m, l, T⟩ = 0) : spanA ⟨1, o, m, l, T⟩ = (o, (l.length : Int)) ∧ 0 ≤ o ∧ 1 ≤ l.length ∧ l.length ≤ 512 ∧ o + l.length ≤ s.data.length := by
  have hr := check_right h
  have hs := span_1 hr rfl
  rw [check_plain hr (.inl rfl), hs] at h
  rcases right_iff.1 hr with r | r | r | r | r
  · have := within_iff.1 r.2.2.1
    simp only at this h
    refine ⟨hs, this.1, by omega, by omega, ?_⟩
    split at h
    · cases h
    · omega
  all_goals (simp only at r; omega)
theorem zero_fits {s : Sx} {k o m : Int} {l : List UInt8} {T : List UInt8} (hk : k = 2 ∨ k = 3) (h : checkM s ⟨k, o, m, l, T⟩ = 0) : spanA ⟨k, o, m, l, T⟩ = (o, m) ∧ 0 ≤ o ∧ 1 ≤ m ∧ m ≤ 512 ∧ o + m ≤ s.data.length := by
  have hr := check_right h
  have hs := span_2 hr hk
  rw [check_plain hr (.inr hk), hs] at h
  rcases right_iff.1 hr with r | r | r | r | r
  · simp only at r; omega
  · have := within_iff.1 r.2.2.1
    simp only at this h
    refine ⟨hs, this.1, this.2.1, this.2.2.1, ?_⟩
    split at h
    · cases h
    · omega
  all_goals (simp only at r; omega)
theorem resize_fits {s : Sx} {o m : Int} {l : List UInt8} {T : List UInt8} (h : checkM s ⟨4, o, m, l, T⟩ = 0) : 0 ≤ m ∧ m ≤ 512 := by
  rcases right_iff.1 (check_right h) with r | r | r | r | r <;> simp only at r <;> omega
theorem name_fits {s : Sx} {k o m : Int} {l : List UInt8} {T : List UInt8} (hk : k = 6 ∨ k = 7) (h : checkM s ⟨k, o, m, l, T⟩ = 0) : ∃ K o, placeO s.snaps T = some K ∧ s.snaps[K]? = some o ∧ lookO s.snaps T = some o := by
  have hr := check_right h
  rw [checkF_name hr hk] at h
  simp only at h
  cases hp : placeO s.snaps T with
  | none => rw [hp] at h; simp at h
  | some K =>
    obtain ⟨o, h1, h2, h3⟩ := placeO_look hp
    exact ⟨K, o, rfl, h1, h2⟩
theorem sized_laid (b : List UInt8) (M : Nat) : layB (List.replicate M 0) 0 (b.take (Nat.min b.length M)) = sizedL b M := by
  unfold layB sizedL
  rw [List.take_zero, List.nil_append, List.length_take, List.drop_replicate]
  rcases Nat.le_total b.length M with c | c
  · rw [show Nat.min b.length M = b.length from Nat.min_eq_left c, Nat.min_self, List.take_of_length_le (Nat.le_refl _), List.take_of_length_le c, Nat.zero_add]
  · rw [show Nat.min b.length M = M from Nat.min_eq_right c, Nat.min_eq_left c, Nat.zero_add, Nat.sub_self, show M - b.length = 0 by omega]
/-- What holds in a region that appends to the snapshots and stores them. -/
def jDn (W0 w0 wo : World) (X : Nat) (d v : Value) (s : Sx) (os : List Od) : Nat → World → Prop
  | 0, w => Below wo.heap.size wo w
  | 1, w => RecAt w X #[d, v] tSt ∧ RecAt w (X + 2) zeroSt tSt ∧ Own W0 w d s.data ∧ KeepS w0 w d v
  | _ + 2, w => ∃ a c, RecAt w X #[d, .slice a os.length c] tSt ∧ RecAt w (X + 2) zeroSt tSt ∧ OwS W0 w d (.slice a os.length c) ⟨s.data, os⟩ ∧ KeepS w0 w d v
theorem KeepS.later {w0 w w' : World} {d v : Value} (h : KeepS w0 w d v) (hb : Below w.heap.size w w') : KeepS w0 w' d v := ⟨Nat.le_trans h.1 hb.size, fun b hlt h1 h2 => (hb.block b (by have := h.1; omega)).trans (h.2 b hlt h1 h2)⟩
theorem jDn_st (W0 w0 wo : World) (X : Nat) (d v : Value) (s : Sx) (os : List Od) : ∀ ph w1 w2, jDn W0 w0 wo X d v s os ph w1 → Below w1.heap.size w1 w2 → jDn W0 w0 wo X d v s os ph w2
  | 0, w1, w2, h, hb => Below.trans h (hb.mono (Below.size h))
  | 1, w1, w2, h, hb => ⟨h.1.later hb, h.2.1.later hb, h.2.2.1.later hb, h.2.2.2.later hb⟩
  | _ + 2, w1, w2, ⟨a, c, h1, h2, h3, h4⟩, hb => ⟨a, c, h1.later hb, h2.later hb, h3.later hb, h4.later hb⟩
/-- What holds in a region that lays other bytes in the state. -/
def jRl (W0 w0 wo : World) (X : Nat) (d v : Value) (s : Sx) : Nat → World → Prop
  | 0, w => Below wo.heap.size wo w
  | _ + 1, w => ∃ a c, RecAt w X #[.slice a s.data.length c, v] tSt ∧ RecAt w (X + 2) zeroSt tSt ∧ OwS W0 w (.slice a s.data.length c) v s ∧ KeepS w0 w d v
theorem jRl_st (W0 w0 wo : World) (X : Nat) (d v : Value) (s : Sx) : ∀ ph w1 w2, jRl W0 w0 wo X d v s ph w1 → Below w1.heap.size w1 w2 → jRl W0 w0 wo X d v s ph w2
  | 0, w1, w2, h, hb => Below.trans h (hb.mono (Below.size h))
  | _ + 1, w1, w2, ⟨a, c, h1, h2, h3, h4⟩, hb => ⟨a, c, h1.later hb, h2.later hb, h3.later hb, h4.later hb⟩
/-- What holds in a region that writes into the state's bytes. -/
def jWr (W0 w0 wo : World) (X g : Nat) (d v : Value) (s : Sx) : Nat → World → Prop
  | 0, w => Below wo.heap.size wo w
  | _ + 1, w => RecAt w X #[d, v] tSt ∧ RecAt w (X + 2) zeroSt tSt ∧ OwS W0 w d v s ∧ KeepS w0 w d v
theorem jWr_st (W0 w0 wo : World) (X g : Nat) (d v : Value) (s : Sx) : ∀ ph w1 w2, jWr W0 w0 wo X g d v s ph w1 → Below w1.heap.size w1 w2 → jWr W0 w0 wo X g d v s ph w2
  | 0, w1, w2, h, hb => Below.trans h (hb.mono (Below.size h))
  | _ + 1, w1, w2, ⟨h1, h2, h3, h4⟩, hb => ⟨h1.later hb, h2.later hb, h3.later hb, h4.later hb⟩
def ouV (W0 : World) (d : Value) (l : List Od) : SV := ⟨fun w x => OU (jS W0 d) W0 w x l, fun w w' x h hb => NOwn.later odu_rel h hb⟩
section
variable (d v : Value) (s : Sx) (o m : Int) (ae : Option Addr) (n c : Nat) (l : List UInt8) (T : ByteArray) (W0 w : World)
set_option maxRecDepth 20000 in
set_option maxHeartbeats 6400000 in
theorem pdone_p8 (h : OwS W0 w d v s) (hok : StOk s) (hr : Row w ae c l) (hn : l.length = n) (hT : T.size ≤ 9223372036854775807) (hck : checkM s ⟨8, o, m, l, T.data.toList⟩ = 0) :
    Calls Try.prog 39 #[.agg #[d, v], .agg #[.int .i64 8, .int .i64 o, .int .i64 m, .slice ae n c, .string T]] w fun e w' => DoneIs W0 w d v (doneM s ⟨8, o, m, l, T.data.toList⟩) e w' := by
  obtain ⟨a1, c1, a2, c2, rfl, rfl, rd, rs⟩ := h.st.open
  obtain ⟨hl1, hl2⟩ := rs.lim
  obtain ⟨nd, hnd⟩ : ∃ z, s.data.length = z := ⟨_, rfl⟩
  obtain ⟨ns, hns⟩ : ∃ z, s.snaps.length = z := ⟨_, rfl⟩
  have hsz := hok.size
  have hmany := hok.many
  have HOK := Lib.hid hok
  have HCK := Lib.hid hck
  simp only [hnd] at h hsz ⊢
  simp only [hns] at h hmany hl1 ⊢
  obtain ⟨X2, X3, X4, B3⟩ := three_recsS w #[.slice a1 nd c1, .slice a2 ns c2] #[.int .i64 8, .int .i64 o, .int .i64 m, .slice ae n c, .string T] zeroSt 32 46 32
  obtain ⟨wb, hw1⟩ : ∃ W, (((w.alloc (.cells #[.slice a1 nd c1, .slice a2 ns c2] 32)).alloc (.cells #[.int .i64 8, .int .i64 o, .int .i64 m, .slice ae n c, .string T] 46)).alloc (.cells zeroSt 32)) = W := ⟨_, rfl⟩
  rw [hw1] at X2 X3 X4 B3
  have HSP := Lib.hid (espan_any 8 o m ae n c l T wb (hr.later B3) hn hT)
  have HX2 := Lib.hid X2
  have HX3 := Lib.hid X3
  have HX4 := Lib.hid X4
  have HB3 := Lib.hid B3
  have HH := Lib.hid (h.later B3)
  have HW := Lib.hid h.below.size
  have HRW := Lib.hid (hr.later B3)
  have HND := Lib.hid hnd
  have HNS := Lib.hid hns
  have HN := Lib.hid hn
  clear X2 X3 X4 B3 rd rs h hnd hns hr hn hok hck
  obtain ⟨p, hp⟩ : ∃ z, (spanA ⟨8, o, m, l, T.data.toList⟩).1 = z := ⟨_, rfl⟩
  obtain ⟨q, hq⟩ : ∃ z, (spanA ⟨8, o, m, l, T.data.toList⟩).2 = z := ⟨_, rfl⟩
  rw [hp, hq] at HSP
  clear hp hq
  obtain ⟨y0, y1, y2, y3, y4⟩ := HX3.out.c5
  go_enter Try.func39, Try.ntmps39
  go_upto_region 1 with fail
  try rw [hw1]
  clear hw1
  obtain ⟨X, hX⟩ : ∃ X, w.heap.size = X := ⟨_, rfl⟩
  simp only [hX] at HX2 HX3 HX4 HW y0 y1 y2 y3 y4 ⊢
  have HXS := Lib.hid hX
  clear hX
  go_wp2_with fail
  refine HSP.out.mono ?_
  rintro e wo ⟨rfl, b2⟩
  have HK0 : Hid (KeepS w wo (.slice a1 nd c1) (.slice a2 ns c2)) := Lib.hid (KeepS.below _ _ (HB3.out.trans (b2.mono HB3.out.size)))
  have HR2 := Lib.hid (HX2.out.later b2)
  have HR3 := Lib.hid (HX3.out.later b2)
  have HR4 := Lib.hid (HX4.out.later b2)
  have HO := Lib.hid (HH.out.later b2)
  have HRR := Lib.hid (HRW.out.later b2)
  clear b2 y0 y1 y2 y3 y4 HSP HX2 HX3 HX4 HH HRW
  obtain ⟨x0, x1⟩ := HR2.out.c2
  obtain ⟨y0, y1, y2, y3, y4⟩ := HR3.out.c5
  have HDN : Hid (doneM s ⟨8, o, m, l, T.data.toList⟩ = s) := Lib.hid (by unfold doneM; simp)
  have HXF := Lib.hid HR2.out
  have HXZ := Lib.hid HR4.out
  have HOF := Lib.hid HO.out
  have HKF := Lib.hid HK0.out
  go_upto_region 19 with fail
  clear x0 x1 y0 y1 y2 y3 y4
  obtain ⟨z0, z1⟩ := HXF.out.c2
  go_wp2_with (refine wpList_rec rfl rfl (X + 2) zeroSt #[.slice a1 nd c1, .slice a2 ns c2] rfl rfl HXZ.out rfl (by kernel_rfl) (by simp [Value.oneCell']) ?_; intro w9 r1 r2 r3 r4)
  refine bodyPost_ret (results_c rfl rfl r1 Try.underlying32 rfl (by kernel_rfl)) rfl ?_
  rw [HDN.out]
  exact ⟨_, _, rfl, HOF.out.over HXZ.out r4 (Nat.le_trans HW.out (Nat.le_add_right _ _)), HKF.out.grown r4 (fun k e => by cases e; exact .inl (by rw [HXS.out]; exact Nat.le_add_right _ _))⟩
set_option maxRecDepth 20000 in
set_option maxHeartbeats 6400000 in
theorem pdone_p1 (h : OwS W0 w d v s) (hok : StOk s) (hr : Row w ae c l) (hn : l.length = n) (hT : T.size ≤ 9223372036854775807) (hck : checkM s ⟨1, o, m, l, T.data.toList⟩ = 0) :
    Calls Try.prog 39 #[.agg #[d, v], .agg #[.int .i64 1, .int .i64 o, .int .i64 m, .slice ae n c, .string T]] w fun e w' => DoneIs W0 w d v (doneM s ⟨1, o, m, l, T.data.toList⟩) e w' := by
  obtain ⟨a1, c1, a2, c2, rfl, rfl, rd, rs⟩ := h.st.open
  obtain ⟨hl1, hl2⟩ := rs.lim
  obtain ⟨nd, hnd⟩ : ∃ z, s.data.length = z := ⟨_, rfl⟩
  obtain ⟨ns, hns⟩ : ∃ z, s.snaps.length = z := ⟨_, rfl⟩
  have hsz := hok.size
  have hmany := hok.many
  have HOK := Lib.hid hok
  have HCK := Lib.hid hck
  simp only [hnd] at h hsz ⊢
  simp only [hns] at h hmany hl1 ⊢
  obtain ⟨X2, X3, X4, B3⟩ := three_recsS w #[.slice a1 nd c1, .slice a2 ns c2] #[.int .i64 1, .int .i64 o, .int .i64 m, .slice ae n c, .string T] zeroSt 32 46 32
  obtain ⟨wb, hw1⟩ : ∃ W, (((w.alloc (.cells #[.slice a1 nd c1, .slice a2 ns c2] 32)).alloc (.cells #[.int .i64 1, .int .i64 o, .int .i64 m, .slice ae n c, .string T] 46)).alloc (.cells zeroSt 32)) = W := ⟨_, rfl⟩
  rw [hw1] at X2 X3 X4 B3
  have HSP := Lib.hid (espan_any 1 o m ae n c l T wb (hr.later B3) hn hT)
  have HX2 := Lib.hid X2
  have HX3 := Lib.hid X3
  have HX4 := Lib.hid X4
  have HB3 := Lib.hid B3
  have HH := Lib.hid (h.later B3)
  have HW := Lib.hid h.below.size
  have HRW := Lib.hid (hr.later B3)
  have HND := Lib.hid hnd
  have HNS := Lib.hid hns
  have HN := Lib.hid hn
  clear X2 X3 X4 B3 rd rs h hnd hns hr hn hok hck
  obtain ⟨hsp, ho, hn1, hn2, hfit⟩ := write_fits HCK.out
  rw [hsp] at HSP
  simp only at HSP
  obtain ⟨O, rfl⟩ : ∃ O : Nat, o = O := ⟨o.toNat, by omega⟩
  rw [HND.out] at hfit
  rw [HN.out] at HSP hn1 hn2 hfit
  have hfit2 : O + n ≤ nd := by omega
  obtain ⟨y0, y1, y2, y3, y4⟩ := HX3.out.c5
  go_enter Try.func39, Try.ntmps39
  go_upto_region 1 with fail
  try rw [hw1]
  clear hw1
  obtain ⟨X, hX⟩ : ∃ X, w.heap.size = X := ⟨_, rfl⟩
  simp only [hX] at HX2 HX3 HX4 HW y0 y1 y2 y3 y4 ⊢
  have HXS := Lib.hid hX
  clear hX
  go_wp2_with fail
  refine HSP.out.mono ?_
  rintro e wo ⟨rfl, b2⟩
  have HK0 : Hid (KeepS w wo (.slice a1 nd c1) (.slice a2 ns c2)) := Lib.hid (KeepS.below _ _ (HB3.out.trans (b2.mono HB3.out.size)))
  have HR2 := Lib.hid (HX2.out.later b2)
  have HR3 := Lib.hid (HX3.out.later b2)
  have HR4 := Lib.hid (HX4.out.later b2)
  have HO := Lib.hid (HH.out.later b2)
  have HRR := Lib.hid (HRW.out.later b2)
  clear b2 y0 y1 y2 y3 y4 HSP HX2 HX3 HX4 HH HRW
  obtain ⟨x0, x1⟩ := HR2.out.c2
  obtain ⟨y0, y1, y2, y3, y4⟩ := HR3.out.c5
  obtain ⟨g, cd, hd, hcd, hcm, hg1, hg2⟩ := HO.out.data.atG HND.out (by omega)
  simp only [Value.slice.injEq] at hd
  obtain ⟨rfl, -, rfl⟩ := hd
  have HDN : Hid (doneM s ⟨1, (O : Int), m, l, T.data.toList⟩ = ⟨layB s.data O l, s.snaps⟩) := Lib.hid (by unfold doneM; simp)
  have HF2 := Lib.hid hfit2
  have HN1 := Lib.hid hn1
  have HCD := Lib.hid (And.intro hcd hcm)
  have HG := Lib.hid (And.intro hg1 hg2)
  clear hsp ho hn2 hfit hfit2 hcd hcm hg1 hg2
  go_upto_region 4 with fail
  clear x0 x1 y0 y1 y2 y3 y4
  -- REG I4
  refine wp_region_ptab (L := fun ph => match ph with | 0 => [cV (.pointer (some ⟨X, 0, none⟩)), cV (.slice (some ⟨g, 0, none⟩) nd c1), cV (.int .i64 ((O : Nat) : Int)), cV (.slice (some ⟨g, O, none⟩) (nd - O) (c1 - O)), cV (.pointer (some ⟨X + 1, 3, none⟩)), cV (.slice ae n c), nV] | _ => [cV (.pointer (some ⟨X, 0, none⟩)), cV (.slice (some ⟨g, 0, none⟩) nd c1), cV (.int .i64 ((O : Nat) : Int)), cV (.slice (some ⟨g, O, none⟩) (nd - O) (c1 - O)), cV (.pointer (some ⟨X + 1, 3, none⟩)), cV (.slice ae n c), cV (.int .i64 ((n : Nat) : Int))]) (jWr W0 w wo X g (.slice (some ⟨g, 0, none⟩) nd c1) (.slice a2 ns c2) ⟨layB s.data O l, s.snaps⟩) [6] [(0, 0), (0, 0), (0, 0), (0, 0), (0, 0), (0, 0), (0, 1)] [[(2, none)], [(18, some 0)], [(5, none)], [(19, some 1), (20, some 2)], [(3, none)], [(22, some 4)], [(21, some 3), (23, some 5)]] 7 1 91 (by kernel_rfl) rfl rfl rfl (by kernel_rfl) (by kernel_rfl) (by decide) (by kernel_rfl) ?_ ?_ ?_ ?_ ?_
  · exact jWr_st W0 w wo X g _ _ _
  · exact Below.refl _ _
  · show ∀ i, i < 7 → _
    iterate 7 (refine fls ?_ ?_)
    · exact fl0
    · intro hne lo hi ph hran hp1 hp2 a w1 hJ hsz hs      -- 0: slot 18
      obtain ⟨rfl, rfl⟩ : 0 = lo ∧ 0 = hi := Prod.mk.inj (Option.some.inj hran)
      obtain rfl : ph = 0 := by omega
      obtain ⟨h0, _⟩ := hs
      have h0 : a.tmps.getD 2 undef = .pointer (some ⟨X, 0, none⟩) := h0
      refine op_run rfl rfl (v := .pointer (some ⟨X, 0, none⟩)) (w' := w1) ?_ rfl (Below.refl _ _)
      simp [execOp, Act.eval, h0, go_sem]
    · intro hne lo hi ph hran hp1 hp2 a w1 hJ hsz hs      -- 1: slot 19
      obtain ⟨rfl, rfl⟩ : 0 = lo ∧ 0 = hi := Prod.mk.inj (Option.some.inj hran)
      obtain rfl : ph = 0 := by omega
      obtain ⟨h0, _⟩ := hs
      have h0 : a.tmps.getD 18 undef = .pointer (some ⟨X, 0, none⟩) := h0
      obtain ⟨k0, k1⟩ := (HR2.out.later (show Below wo.heap.size wo w1 from hJ)).c2
      refine op_run rfl rfl (v := .slice (some ⟨g, 0, none⟩) nd c1) (w' := w1) ?_ rfl (Below.refl _ _)
      simp [execOp, Act.eval, h0, k0, go_sem]
    · intro hne lo hi ph hran hp1 hp2 a w1 hJ hsz hs      -- 2: slot 20
      obtain ⟨rfl, rfl⟩ : 0 = lo ∧ 0 = hi := Prod.mk.inj (Option.some.inj hran)
      obtain rfl : ph = 0 := by omega
      obtain ⟨h0, _⟩ := hs
      have h0 : a.tmps.getD 5 undef = .int .i64 ((O : Nat) : Int) := h0
      refine op_run rfl rfl (v := .int .i64 ((O : Nat) : Int)) (w' := w1) ?_ rfl (Below.refl _ _)
      simp [execOp, Act.eval, h0, go_sem]
    · intro hne lo hi ph hran hp1 hp2 a w1 hJ hsz hs      -- 3: slot 21
      obtain ⟨rfl, rfl⟩ : 0 = lo ∧ 0 = hi := Prod.mk.inj (Option.some.inj hran)
      obtain rfl : ph = 0 := by omega
      obtain ⟨h0, h1, _⟩ := hs
      have h0 : a.tmps.getD 19 undef = .slice (some ⟨g, 0, none⟩) nd c1 := h0
      have h1 : a.tmps.getD 20 undef = .int .i64 ((O : Nat) : Int) := h1
      have hs21 := fun W => run_sl_end W g 0 nd c1 O (by have := HF2.out; omega) HCD.out.1 (by have := HF2.out; have := HCD.out.1; have := HN1.out; omega)
      simp only [Nat.zero_add] at hs21
      refine op_run rfl rfl (v := .slice (some ⟨g, O, none⟩) (nd - O) (c1 - O)) (w' := w1) ?_ rfl (Below.refl _ _)
      simp [execOp, Act.eval, h0, h1, hs21, go_sem]
    · intro hne lo hi ph hran hp1 hp2 a w1 hJ hsz hs      -- 4: slot 22
      obtain ⟨rfl, rfl⟩ : 0 = lo ∧ 0 = hi := Prod.mk.inj (Option.some.inj hran)
      obtain rfl : ph = 0 := by omega
      obtain ⟨h0, _⟩ := hs
      have h0 : a.tmps.getD 3 undef = .pointer (some ⟨X + 1, 0, none⟩) := h0
      refine op_run rfl rfl (v := .pointer (some ⟨X + 1, 3, none⟩)) (w' := w1) ?_ rfl (Below.refl _ _)
      simp [execOp, Act.eval, h0, go_sem]
    · intro hne lo hi ph hran hp1 hp2 a w1 hJ hsz hs      -- 5: slot 23
      obtain ⟨rfl, rfl⟩ : 0 = lo ∧ 0 = hi := Prod.mk.inj (Option.some.inj hran)
      obtain rfl : ph = 0 := by omega
      obtain ⟨h0, _⟩ := hs
      have h0 : a.tmps.getD 22 undef = .pointer (some ⟨X + 1, 3, none⟩) := h0
      obtain ⟨k0, k1, k2, k3, k4⟩ := (HR3.out.later (show Below wo.heap.size wo w1 from hJ)).c5
      refine op_run rfl rfl (v := .slice ae n c) (w' := w1) ?_ rfl (Below.refl _ _)
      simp [execOp, Act.eval, h0, k3, go_sem]
    · intro hne lo hi ph hran hp1 hp2 a w1 hJ hsz hs      -- 6: slot 24
      exact absurd (by decide) hne
  · show ∀ ph, ph < 1 → _
    iterate 1 (refine fls ?_ ?_)
    · exact fl0
    · intro i hi a w1 hJ hsz hs      -- heavy 0: op 6 slot 24
      obtain rfl : 6 = i := Option.some.inj hi
      obtain ⟨h0, h1, _⟩ := hs
      have h0 : a.tmps.getD 21 undef = .slice (some ⟨g, O, none⟩) (nd - O) (c1 - O) := h0
      have h1 : a.tmps.getD 23 undef = .slice ae n c := h1
      have hO := HO.out.later (show Below wo.heap.size wo w1 from hJ)
      obtain ⟨cur, hcur, hcs, hown⟩ := own_laid (d := l) (off := O) hO.data HND.out (by rw [HN.out]; exact HF2.out)
      have hgr := grown_setRow w1 g (cur.toList.take O ++ l.map B8 ++ cur.toList.drop (O + l.length)).toArray
      have hne := hO.noRec (HR2.out.later (show Below wo.heap.size wo w1 from hJ))
      have hne4 := hO.noRec (HR4.out.later (show Below wo.heap.size wo w1 from hJ))
      have hrw := HRR.out.later (show Below wo.heap.size wo w1 from hJ)
      obtain ⟨y, rfl⟩ : ∃ y, ae = some y := by
        cases ae with
        | some y => exact ⟨y, rfl⟩
        | none => have h9 := hrw.of_nil; have h8 := HN.out; rw [h9.1] at h8; simp at h8; have := HN1.out; omega
      have hcp := run_copyB w1 g O (nd - O) (c1 - O) y n c cur l hcur (by rw [HN.out]; exact (Nat.min_eq_left (by have := HF2.out; omega)).symm) (fun j u hj => hrw.2.2.2 y rfl j u hj) hcs
      rw [HN.out] at hcp hgr hown
      refine hv_run rfl rfl (v := goInt n) (w' := w1.setRow g (cur.toList.take O ++ l.map B8 ++ cur.toList.drop (O + n)).toArray) (mdexec_copy rfl h0 h1 (hcp 3)) rfl ⟨(HR2.out.later (show Below wo.heap.size wo w1 from hJ)).grown hgr (fun e => hne.1 e.symm), (HR4.out.later (show Below wo.heap.size wo w1 from hJ)).grown hgr (fun e => hne4.1 e.symm), hO.inData rfl hgr hown, (HK0.out.later (show Below wo.heap.size wo w1 from hJ)).grown hgr (fun k e => by cases e; exact .inr (.inl rfl))⟩ (Calm5.all (n := 0) ⟨.inr fun _ h => h, .inr fun _ h => h, .inr fun _ h => h, .inr fun _ h => h, .inr fun _ h => h, .inr fun _ h => h, .inl rfl, trivial⟩)
  intro f w1 hJ hv
  clear hv
  try simp only [Exit.then]
  simp only [putAll, List.foldl_cons, List.foldl_nil, Option.getD_some, Act.put, List.setIfInBounds_toArray, List.set_cons_succ, List.set_cons_zero]
  obtain ⟨q1, q2, q3, q4⟩ := (show jWr W0 w wo X g (.slice (some ⟨g, 0, none⟩) nd c1) (.slice a2 ns c2) ⟨layB s.data O l, s.snaps⟩ 1 w1 from hJ)
  have HXF := Lib.hid q1
  have HXZ := Lib.hid q2
  have HOF := Lib.hid q3
  have HKF := Lib.hid q4
  clear hJ q1 q2 q3 q4
  go_upto_region 19 with fail
  -- END I4
  obtain ⟨y0, y1⟩ : True ∧ True := ⟨trivial, trivial⟩
  obtain ⟨x0, x1, y2, y3, y4⟩ : True ∧ True ∧ True ∧ True ∧ True := ⟨trivial, trivial, trivial, trivial, trivial⟩
  clear x0 x1 y0 y1 y2 y3 y4
  obtain ⟨z0, z1⟩ := HXF.out.c2
  go_wp2_with (refine wpList_rec rfl rfl (X + 2) zeroSt #[.slice (some ⟨g, 0, none⟩) nd c1, .slice a2 ns c2] rfl rfl HXZ.out rfl (by kernel_rfl) (by simp [Value.oneCell']) ?_; intro w9 r1 r2 r3 r4)
  refine bodyPost_ret (results_c rfl rfl r1 Try.underlying32 rfl (by kernel_rfl)) rfl ?_
  rw [HDN.out]
  exact ⟨_, _, rfl, HOF.out.over HXZ.out r4 (Nat.le_trans HW.out (Nat.le_add_right _ _)), HKF.out.grown r4 (fun k e => by cases e; exact .inl (by rw [HXS.out]; exact Nat.le_add_right _ _))⟩
set_option maxRecDepth 20000 in
set_option maxHeartbeats 6400000 in
theorem pdone_p2 (h : OwS W0 w d v s) (hok : StOk s) (hr : Row w ae c l) (hn : l.length = n) (hT : T.size ≤ 9223372036854775807) (hck : checkM s ⟨2, o, m, l, T.data.toList⟩ = 0) :
    Calls Try.prog 39 #[.agg #[d, v], .agg #[.int .i64 2, .int .i64 o, .int .i64 m, .slice ae n c, .string T]] w fun e w' => DoneIs W0 w d v (doneM s ⟨2, o, m, l, T.data.toList⟩) e w' := by
  obtain ⟨a1, c1, a2, c2, rfl, rfl, rd, rs⟩ := h.st.open
  obtain ⟨hl1, hl2⟩ := rs.lim
  obtain ⟨nd, hnd⟩ : ∃ z, s.data.length = z := ⟨_, rfl⟩
  obtain ⟨ns, hns⟩ : ∃ z, s.snaps.length = z := ⟨_, rfl⟩
  have hsz := hok.size
  have hmany := hok.many
  have HOK := Lib.hid hok
  have HCK := Lib.hid hck
  simp only [hnd] at h hsz ⊢
  simp only [hns] at h hmany hl1 ⊢
  obtain ⟨X2, X3, X4, B3⟩ := three_recsS w #[.slice a1 nd c1, .slice a2 ns c2] #[.int .i64 2, .int .i64 o, .int .i64 m, .slice ae n c, .string T] zeroSt 32 46 32
  obtain ⟨wb, hw1⟩ : ∃ W, (((w.alloc (.cells #[.slice a1 nd c1, .slice a2 ns c2] 32)).alloc (.cells #[.int .i64 2, .int .i64 o, .int .i64 m, .slice ae n c, .string T] 46)).alloc (.cells zeroSt 32)) = W := ⟨_, rfl⟩
  rw [hw1] at X2 X3 X4 B3
  have HSP := Lib.hid (espan_any 2 o m ae n c l T wb (hr.later B3) hn hT)
  have HX2 := Lib.hid X2
  have HX3 := Lib.hid X3
  have HX4 := Lib.hid X4
  have HB3 := Lib.hid B3
  have HH := Lib.hid (h.later B3)
  have HW := Lib.hid h.below.size
  have HRW := Lib.hid (hr.later B3)
  have HND := Lib.hid hnd
  have HNS := Lib.hid hns
  have HN := Lib.hid hn
  clear X2 X3 X4 B3 rd rs h hnd hns hr hn hok hck
  obtain ⟨hsp, ho, hm1, hm2, hfit⟩ := zero_fits (by omega) HCK.out
  rw [hsp] at HSP
  simp only at HSP
  obtain ⟨O, rfl⟩ : ∃ O : Nat, o = O := ⟨o.toNat, by omega⟩
  obtain ⟨M, rfl⟩ : ∃ O : Nat, m = O := ⟨m.toNat, by omega⟩
  rw [HND.out] at hfit
  have hfit2 : O + M ≤ nd := by omega
  have hwr : wrap64 ((O : Int) + (M : Int)) = (O : Int) + (M : Int) := IntWalk.wrap64_in _ (by omega)
  obtain ⟨y0, y1, y2, y3, y4⟩ := HX3.out.c5
  go_enter Try.func39, Try.ntmps39
  go_upto_region 1 with fail
  try rw [hw1]
  clear hw1
  obtain ⟨X, hX⟩ : ∃ X, w.heap.size = X := ⟨_, rfl⟩
  simp only [hX] at HX2 HX3 HX4 HW y0 y1 y2 y3 y4 ⊢
  have HXS := Lib.hid hX
  clear hX
  go_wp2_with fail
  refine HSP.out.mono ?_
  rintro e wo ⟨rfl, b2⟩
  have HK0 : Hid (KeepS w wo (.slice a1 nd c1) (.slice a2 ns c2)) := Lib.hid (KeepS.below _ _ (HB3.out.trans (b2.mono HB3.out.size)))
  have HR2 := Lib.hid (HX2.out.later b2)
  have HR3 := Lib.hid (HX3.out.later b2)
  have HR4 := Lib.hid (HX4.out.later b2)
  have HO := Lib.hid (HH.out.later b2)
  have HRR := Lib.hid (HRW.out.later b2)
  clear b2 y0 y1 y2 y3 y4 HSP HX2 HX3 HX4 HH HRW
  obtain ⟨x0, x1⟩ := HR2.out.c2
  obtain ⟨y0, y1, y2, y3, y4⟩ := HR3.out.c5
  obtain ⟨g, cd, hd, hcd, hcm, hg1, hg2⟩ := HO.out.data.atG HND.out (by omega)
  simp only [Value.slice.injEq] at hd
  obtain ⟨rfl, -, rfl⟩ := hd
  have HDN : Hid (doneM s ⟨2, (O : Int), (M : Int), l, T.data.toList⟩ = ⟨layB s.data O (List.replicate M 0), s.snaps⟩) := Lib.hid (by unfold doneM; simp)
  obtain ⟨cur, hcur, hcs, hown⟩ := own_laid (d := List.replicate M (0 : UInt8)) (off := O) HO.out.data HND.out (by rw [List.length_replicate]; exact hfit2)
  rw [List.length_replicate] at hcs hown
  have hcl := fun ty => run_clearB wo g O M (c1 - O) cur hcur (by omega) hcs ty
  have hsl := fun W => run_sl W g 0 nd c1 O (O + M) (by omega) (by omega) (by omega)
  rw [Nat.zero_add, show O + M - O = M by omega] at hsl
  simp only [show ((O + M : Nat) : Int) = (O : Int) + (M : Int) by omega] at hsl
  obtain ⟨w5, hw5⟩ : ∃ W, wo.setRow g (cur.toList.take O ++ (List.replicate M (0 : UInt8)).map B8 ++ cur.toList.drop (O + M)).toArray = W := ⟨_, rfl⟩
  rw [hw5] at hown hcl
  have hgr : wo.grownBy w5 (some g) := by rw [← hw5]; exact grown_setRow _ _ _
  have HOF := Lib.hid (HO.out.inData rfl hgr hown)
  have hne := HO.out.noRec HR2.out
  have hne4 := HO.out.noRec HR4.out
  have HXF := Lib.hid (HR2.out.grown hgr (fun e => hne.1 e.symm))
  have HXZ := Lib.hid (HR4.out.grown hgr (fun e => hne4.1 e.symm))
  have HKF := Lib.hid (HK0.out.grown hgr (fun k e => by cases e; exact .inr (.inl rfl)))
  clear hsp ho hm2 hfit hfit2 hcd hcm hg1 hg2 hown hgr hne hne4 hcs hcur hw5
  go_upto_region 19 with fail
  clear x0 x1 y0 y1 y2 y3 y4
  obtain ⟨z0, z1⟩ := HXF.out.c2
  go_wp2_with (refine wpList_rec rfl rfl (X + 2) zeroSt #[.slice (some ⟨g, 0, none⟩) nd c1, .slice a2 ns c2] rfl rfl HXZ.out rfl (by kernel_rfl) (by simp [Value.oneCell']) ?_; intro w9 r1 r2 r3 r4)
  refine bodyPost_ret (results_c rfl rfl r1 Try.underlying32 rfl (by kernel_rfl)) rfl ?_
  rw [HDN.out]
  exact ⟨_, _, rfl, HOF.out.over HXZ.out r4 (Nat.le_trans HW.out (Nat.le_add_right _ _)), HKF.out.grown r4 (fun k e => by cases e; exact .inl (by rw [HXS.out]; exact Nat.le_add_right _ _))⟩
set_option maxRecDepth 20000 in
set_option maxHeartbeats 6400000 in
theorem pdone_p3 (h : OwS W0 w d v s) (hok : StOk s) (hr : Row w ae c l) (hn : l.length = n) (hT : T.size ≤ 9223372036854775807) (hck : checkM s ⟨3, o, m, l, T.data.toList⟩ = 0) :
    Calls Try.prog 39 #[.agg #[d, v], .agg #[.int .i64 3, .int .i64 o, .int .i64 m, .slice ae n c, .string T]] w fun e w' => DoneIs W0 w d v (doneM s ⟨3, o, m, l, T.data.toList⟩) e w' := by
  obtain ⟨a1, c1, a2, c2, rfl, rfl, rd, rs⟩ := h.st.open
  obtain ⟨hl1, hl2⟩ := rs.lim
  obtain ⟨nd, hnd⟩ : ∃ z, s.data.length = z := ⟨_, rfl⟩
  obtain ⟨ns, hns⟩ : ∃ z, s.snaps.length = z := ⟨_, rfl⟩
  have hsz := hok.size
  have hmany := hok.many
  have HOK := Lib.hid hok
  have HCK := Lib.hid hck
  simp only [hnd] at h hsz ⊢
  simp only [hns] at h hmany hl1 ⊢
  obtain ⟨X2, X3, X4, B3⟩ := three_recsS w #[.slice a1 nd c1, .slice a2 ns c2] #[.int .i64 3, .int .i64 o, .int .i64 m, .slice ae n c, .string T] zeroSt 32 46 32
  obtain ⟨wb, hw1⟩ : ∃ W, (((w.alloc (.cells #[.slice a1 nd c1, .slice a2 ns c2] 32)).alloc (.cells #[.int .i64 3, .int .i64 o, .int .i64 m, .slice ae n c, .string T] 46)).alloc (.cells zeroSt 32)) = W := ⟨_, rfl⟩
  rw [hw1] at X2 X3 X4 B3
  have HSP := Lib.hid (espan_any 3 o m ae n c l T wb (hr.later B3) hn hT)
  have HX2 := Lib.hid X2
  have HX3 := Lib.hid X3
  have HX4 := Lib.hid X4
  have HB3 := Lib.hid B3
  have HH := Lib.hid (h.later B3)
  have HW := Lib.hid h.below.size
  have HRW := Lib.hid (hr.later B3)
  have HND := Lib.hid hnd
  have HNS := Lib.hid hns
  have HN := Lib.hid hn
  clear X2 X3 X4 B3 rd rs h hnd hns hr hn hok hck
  obtain ⟨hsp, ho, hm1, hm2, hfit⟩ := zero_fits (by omega) HCK.out
  rw [hsp] at HSP
  simp only at HSP
  obtain ⟨O, rfl⟩ : ∃ O : Nat, o = O := ⟨o.toNat, by omega⟩
  obtain ⟨M, rfl⟩ : ∃ O : Nat, m = O := ⟨m.toNat, by omega⟩
  rw [HND.out] at hfit
  have hfit2 : O + M ≤ nd := by omega
  have hwr : wrap64 ((O : Int) + (M : Int)) = (O : Int) + (M : Int) := IntWalk.wrap64_in _ (by omega)
  obtain ⟨y0, y1, y2, y3, y4⟩ := HX3.out.c5
  go_enter Try.func39, Try.ntmps39
  go_upto_region 1 with fail
  try rw [hw1]
  clear hw1
  obtain ⟨X, hX⟩ : ∃ X, w.heap.size = X := ⟨_, rfl⟩
  simp only [hX] at HX2 HX3 HX4 HW y0 y1 y2 y3 y4 ⊢
  have HXS := Lib.hid hX
  clear hX
  go_wp2_with fail
  refine HSP.out.mono ?_
  rintro e wo ⟨rfl, b2⟩
  have HK0 : Hid (KeepS w wo (.slice a1 nd c1) (.slice a2 ns c2)) := Lib.hid (KeepS.below _ _ (HB3.out.trans (b2.mono HB3.out.size)))
  have HR2 := Lib.hid (HX2.out.later b2)
  have HR3 := Lib.hid (HX3.out.later b2)
  have HR4 := Lib.hid (HX4.out.later b2)
  have HO := Lib.hid (HH.out.later b2)
  have HRR := Lib.hid (HRW.out.later b2)
  clear b2 y0 y1 y2 y3 y4 HSP HX2 HX3 HX4 HH HRW
  obtain ⟨x0, x1⟩ := HR2.out.c2
  obtain ⟨y0, y1, y2, y3, y4⟩ := HR3.out.c5
  obtain ⟨g, cd, hd, hcd, hcm, hg1, hg2⟩ := HO.out.data.atG HND.out (by omega)
  simp only [Value.slice.injEq] at hd
  obtain ⟨rfl, -, rfl⟩ := hd
  have HDN : Hid (doneM s ⟨3, (O : Int), (M : Int), l, T.data.toList⟩ = ⟨layB s.data O (List.replicate M 0), s.snaps⟩) := Lib.hid (by unfold doneM; simp)
  obtain ⟨cur, hcur, hcs, hown⟩ := own_laid (d := List.replicate M (0 : UInt8)) (off := O) HO.out.data HND.out (by rw [List.length_replicate]; exact hfit2)
  rw [List.length_replicate] at hcs hown
  have hcl := fun ty => run_clearB wo g O M (c1 - O) cur hcur (by omega) hcs ty
  have hsl := fun W => run_sl W g 0 nd c1 O (O + M) (by omega) (by omega) (by omega)
  rw [Nat.zero_add, show O + M - O = M by omega] at hsl
  simp only [show ((O + M : Nat) : Int) = (O : Int) + (M : Int) by omega] at hsl
  obtain ⟨w5, hw5⟩ : ∃ W, wo.setRow g (cur.toList.take O ++ (List.replicate M (0 : UInt8)).map B8 ++ cur.toList.drop (O + M)).toArray = W := ⟨_, rfl⟩
  rw [hw5] at hown hcl
  have hgr : wo.grownBy w5 (some g) := by rw [← hw5]; exact grown_setRow _ _ _
  have HOF := Lib.hid (HO.out.inData rfl hgr hown)
  have hne := HO.out.noRec HR2.out
  have hne4 := HO.out.noRec HR4.out
  have HXF := Lib.hid (HR2.out.grown hgr (fun e => hne.1 e.symm))
  have HXZ := Lib.hid (HR4.out.grown hgr (fun e => hne4.1 e.symm))
  have HKF := Lib.hid (HK0.out.grown hgr (fun k e => by cases e; exact .inr (.inl rfl)))
  clear hsp ho hm2 hfit hfit2 hcd hcm hg1 hg2 hown hgr hne hne4 hcs hcur hw5
  go_upto_region 19 with fail
  clear x0 x1 y0 y1 y2 y3 y4
  obtain ⟨z0, z1⟩ := HXF.out.c2
  go_wp2_with (refine wpList_rec rfl rfl (X + 2) zeroSt #[.slice (some ⟨g, 0, none⟩) nd c1, .slice a2 ns c2] rfl rfl HXZ.out rfl (by kernel_rfl) (by simp [Value.oneCell']) ?_; intro w9 r1 r2 r3 r4)
  refine bodyPost_ret (results_c rfl rfl r1 Try.underlying32 rfl (by kernel_rfl)) rfl ?_
  rw [HDN.out]
  exact ⟨_, _, rfl, HOF.out.over HXZ.out r4 (Nat.le_trans HW.out (Nat.le_add_right _ _)), HKF.out.grown r4 (fun k e => by cases e; exact .inl (by rw [HXS.out]; exact Nat.le_add_right _ _))⟩
set_option maxRecDepth 20000 in
set_option maxHeartbeats 6400000 in
theorem pdone_p4 (h : OwS W0 w d v s) (hok : StOk s) (hr : Row w ae c l) (hn : l.length = n) (hT : T.size ≤ 9223372036854775807) (hck : checkM s ⟨4, o, m, l, T.data.toList⟩ = 0) :
    Calls Try.prog 39 #[.agg #[d, v], .agg #[.int .i64 4, .int .i64 o, .int .i64 m, .slice ae n c, .string T]] w fun e w' => DoneIs W0 w d v (doneM s ⟨4, o, m, l, T.data.toList⟩) e w' := by
  obtain ⟨a1, c1, a2, c2, rfl, rfl, rd, rs⟩ := h.st.open
  obtain ⟨hl1, hl2⟩ := rs.lim
  obtain ⟨nd, hnd⟩ : ∃ z, s.data.length = z := ⟨_, rfl⟩
  obtain ⟨ns, hns⟩ : ∃ z, s.snaps.length = z := ⟨_, rfl⟩
  have hsz := hok.size
  have hmany := hok.many
  have HOK := Lib.hid hok
  have HCK := Lib.hid hck
  simp only [hnd] at h hsz ⊢
  simp only [hns] at h hmany hl1 ⊢
  obtain ⟨X2, X3, X4, B3⟩ := three_recsS w #[.slice a1 nd c1, .slice a2 ns c2] #[.int .i64 4, .int .i64 o, .int .i64 m, .slice ae n c, .string T] zeroSt 32 46 32
  obtain ⟨wb, hw1⟩ : ∃ W, (((w.alloc (.cells #[.slice a1 nd c1, .slice a2 ns c2] 32)).alloc (.cells #[.int .i64 4, .int .i64 o, .int .i64 m, .slice ae n c, .string T] 46)).alloc (.cells zeroSt 32)) = W := ⟨_, rfl⟩
  rw [hw1] at X2 X3 X4 B3
  have HSP := Lib.hid (espan_any 4 o m ae n c l T wb (hr.later B3) hn hT)
  have HX2 := Lib.hid X2
  have HX3 := Lib.hid X3
  have HX4 := Lib.hid X4
  have HB3 := Lib.hid B3
  have HH := Lib.hid (h.later B3)
  have HW := Lib.hid h.below.size
  have HRW := Lib.hid (hr.later B3)
  have HND := Lib.hid hnd
  have HNS := Lib.hid hns
  have HN := Lib.hid hn
  clear X2 X3 X4 B3 rd rs h hnd hns hr hn hok hck
  obtain ⟨p, hp⟩ : ∃ z, (spanA ⟨4, o, m, l, T.data.toList⟩).1 = z := ⟨_, rfl⟩
  obtain ⟨q, hq⟩ : ∃ z, (spanA ⟨4, o, m, l, T.data.toList⟩).2 = z := ⟨_, rfl⟩
  rw [hp, hq] at HSP
  clear hp hq
  obtain ⟨hm1, hm2⟩ := resize_fits HCK.out
  obtain ⟨M, rfl⟩ : ∃ O : Nat, m = O := ⟨m.toNat, by omega⟩
  obtain ⟨y0, y1, y2, y3, y4⟩ := HX3.out.c5
  go_enter Try.func39, Try.ntmps39
  go_upto_region 1 with fail
  try rw [hw1]
  clear hw1
  obtain ⟨X, hX⟩ : ∃ X, w.heap.size = X := ⟨_, rfl⟩
  simp only [hX] at HX2 HX3 HX4 HW y0 y1 y2 y3 y4 ⊢
  have HXS := Lib.hid hX
  clear hX
  go_wp2_with fail
  refine HSP.out.mono ?_
  rintro e wo ⟨rfl, b2⟩
  have HK0 : Hid (KeepS w wo (.slice a1 nd c1) (.slice a2 ns c2)) := Lib.hid (KeepS.below _ _ (HB3.out.trans (b2.mono HB3.out.size)))
  have HR2 := Lib.hid (HX2.out.later b2)
  have HR3 := Lib.hid (HX3.out.later b2)
  have HR4 := Lib.hid (HX4.out.later b2)
  have HO := Lib.hid (HH.out.later b2)
  have HRR := Lib.hid (HRW.out.later b2)
  clear b2 y0 y1 y2 y3 y4 HSP HX2 HX3 HX4 HH HRW
  obtain ⟨x0, x1⟩ := HR2.out.c2
  obtain ⟨y0, y1, y2, y3, y4⟩ := HR3.out.c5
  have HDN : Hid (doneM s ⟨4, o, (M : Int), l, T.data.toList⟩ = ⟨sizedL s.data M, s.snaps⟩) := Lib.hid (by unfold doneM; simp)
  go_upto_region 10 with fail
  go_upto_region 11 with (refine wp_zeros rfl (.tmp 40) (.tmp 40) rfl wo (Below.refl _ _) .i64 .i64 _ _ M rfl rfl rfl rfl (by omega) ?_; intro w3 o3 b3; have k0 := (HR2.out.later b3).cell (i := 0) rfl; have k1 := (HR2.out.later b3).frozen 0)
  obtain ⟨G, hG⟩ : ∃ z, wo.heap.size = z := ⟨_, rfl⟩
  have HG := Lib.hid hG
  rw [hG] at o3 ⊢
  have gx := grown_set w3 X 0 (.slice (some ⟨G, 0, none⟩) M M)
  have hr23 := HR2.out.later b3
  have q3 : OwS W0 w3 (.slice (some ⟨G, 0, none⟩) M M) (.slice a2 ns c2) ⟨List.replicate M 0, s.snaps⟩ := HO.out.newData o3
  have q4 := q3.over hr23 gx HW.out
  have hr24 : RecAt (w3.setCell ⟨X, 0, none⟩ (.slice (some ⟨G, 0, none⟩) M M)) X #[.slice (some ⟨G, 0, none⟩) M M, .slice a2 ns c2] tSt := hr23.set 0 _
  have hr44 : RecAt (w3.setCell ⟨X, 0, none⟩ (.slice (some ⟨G, 0, none⟩) M M)) (X + 2) zeroSt tSt := (HR4.out.later b3).other (by omega) 0 _
  have hk4 : KeepS w (w3.setCell ⟨X, 0, none⟩ (.slice (some ⟨G, 0, none⟩) M M)) (.slice a1 nd c1) (.slice a2 ns c2) := (HK0.out.later b3).grown gx (fun k e => by cases e; exact .inl (by rw [HXS.out]; exact Nat.le_refl _))
  have hd4 : Own W0 (w3.setCell ⟨X, 0, none⟩ (.slice (some ⟨G, 0, none⟩) M M)) (.slice a1 nd c1) s.data := (HO.out.data.later b3).keptG gx (.inr ((HO.out.data.later b3).neT hr23 (by decide))) (fun k e => by cases e; exact HW.out)
  obtain ⟨w4, hw4⟩ : ∃ W, w3.setCell ⟨X, 0, none⟩ (.slice (some ⟨G, 0, none⟩) M M) = W := ⟨_, rfl⟩
  rw [hw4] at q4 hr24 hr44 hk4 hd4
  try rw [hw4]
  obtain ⟨t0, t1⟩ := hr24.c2
  have hsl := hd4.row_n HND.out
  obtain ⟨a1', c1', hv1, hrow⟩ := hsl
  simp only [Value.slice.injEq, true_and] at hv1
  obtain ⟨rfl, rfl⟩ := hv1
  have HGG : Hid (w.heap.size ≤ G) := Lib.hid (by rw [← HG.out]; exact HK0.out.1)
  have key : ∃ w5 N, (∀ ty, (Builtin.copy_ #[22, 22] ty #[.slice (some ⟨G, 0, none⟩) M M, .slice a1 nd c1]).run Try.prog w4 = .ok (goInt N) w5) ∧ OwS W0 w5 (.slice (some ⟨G, 0, none⟩) M M) (.slice a2 ns c2) ⟨sizedL s.data M, s.snaps⟩ ∧ w4.grownBy w5 (some G) := by
    cases a1 with
    | none =>
      obtain ⟨hs0, hc0⟩ := hrow.of_nil
      have h0 : nd = 0 := by rw [← HND.out, hs0]; rfl
      subst h0; subst hc0
      refine ⟨w4, 0, fun ty => run_copy_nil (P := Try.prog) w4 22 22 ty 5 _ M M Try.underlying22 (by kernel_rfl), ?_, grown_refl _ _⟩
      have e : sizedL s.data M = List.replicate M 0 := by rw [hs0]; unfold sizedL; simp
      rw [e]; exact q4
    | some y =>
      have hpl : (s.data.take (Nat.min s.data.length M)).length = Nat.min nd M := by rw [List.length_take, HND.out]; exact Nat.min_eq_left (Nat.min_le_left _ _)
      have hpm : (s.data.take (Nat.min s.data.length M)).length ≤ M := by rw [hpl]; exact Nat.min_le_right _ _
      obtain ⟨cur, hcur, hcs, hown⟩ := own_laid (d := s.data.take (Nat.min s.data.length M)) (off := 0) q4.data (by simp) (by simpa using hpm)
      rw [sized_laid] at hown
      refine ⟨_, _, fun ty => run_copyB w4 G 0 M M y nd c1 cur (s.data.take (Nat.min s.data.length M)) hcur hpl (fun j u hj => hrow.2.2.2 y rfl j u (by
        rw [List.getElem?_take] at hj
        split at hj
        · exact hj
        · cases hj)) hcs ty, ?_, grown_setRow _ _ _⟩
      exact q4.inData rfl (grown_setRow _ _ _) hown
  obtain ⟨w5, N5, hcp, q5, g5⟩ := key
  have hneX : X ≠ G := by have := HR2.out.lt; have := HG.out; omega
  have hneX2 : X + 2 ≠ G := by have := HR4.out.lt; have := HG.out; omega
  have HXF := Lib.hid (hr24.grown g5 (fun e => hneX (Option.some.inj e)))
  have HXZ := Lib.hid (hr44.grown g5 (fun e => hneX2 (Option.some.inj e)))
  have HOF := Lib.hid q5
  have HKF := Lib.hid (hk4.grown g5 (fun k e => by cases e; exact .inl HGG.out))
  clear q3 q4 q5 hr23 hr24 hr44 hk4 hd4 hrow gx g5 hw4 b3 o3 k0 k1 hneX hneX2 hG
  go_upto_region 19 with fail
  clear t0 t1 hcp
  clear x0 x1 y0 y1 y2 y3 y4
  obtain ⟨z0, z1⟩ := HXF.out.c2
  go_wp2_with (refine wpList_rec rfl rfl (X + 2) zeroSt #[.slice (some ⟨G, 0, none⟩) M M, .slice a2 ns c2] rfl rfl HXZ.out rfl (by kernel_rfl) (by simp [Value.oneCell']) ?_; intro w9 r1 r2 r3 r4)
  refine bodyPost_ret (results_c rfl rfl r1 Try.underlying32 rfl (by kernel_rfl)) rfl ?_
  rw [HDN.out]
  exact ⟨_, _, rfl, HOF.out.over HXZ.out r4 (Nat.le_trans HW.out (Nat.le_add_right _ _)), HKF.out.grown r4 (fun k e => by cases e; exact .inl (by rw [HXS.out]; exact Nat.le_add_right _ _))⟩
set_option maxRecDepth 20000 in
set_option maxHeartbeats 6400000 in
theorem pdone_p5 (h : OwS W0 w d v s) (hok : StOk s) (hr : Row w ae c l) (hn : l.length = n) (hT : T.size ≤ 9223372036854775807) (hck : checkM s ⟨5, o, m, l, T.data.toList⟩ = 0) :
    Calls Try.prog 39 #[.agg #[d, v], .agg #[.int .i64 5, .int .i64 o, .int .i64 m, .slice ae n c, .string T]] w fun e w' => DoneIs W0 w d v (doneM s ⟨5, o, m, l, T.data.toList⟩) e w' := by
  obtain ⟨a1, c1, a2, c2, rfl, rfl, rd, rs⟩ := h.st.open
  obtain ⟨hl1, hl2⟩ := rs.lim
  obtain ⟨nd, hnd⟩ : ∃ z, s.data.length = z := ⟨_, rfl⟩
  obtain ⟨ns, hns⟩ : ∃ z, s.snaps.length = z := ⟨_, rfl⟩
  have hsz := hok.size
  have hmany := hok.many
  have HOK := Lib.hid hok
  have HCK := Lib.hid hck
  simp only [hnd] at h hsz ⊢
  simp only [hns] at h hmany hl1 ⊢
  obtain ⟨X2, X3, X4, B3⟩ := three_recsS w #[.slice a1 nd c1, .slice a2 ns c2] #[.int .i64 5, .int .i64 o, .int .i64 m, .slice ae n c, .string T] zeroSt 32 46 32
  obtain ⟨wb, hw1⟩ : ∃ W, (((w.alloc (.cells #[.slice a1 nd c1, .slice a2 ns c2] 32)).alloc (.cells #[.int .i64 5, .int .i64 o, .int .i64 m, .slice ae n c, .string T] 46)).alloc (.cells zeroSt 32)) = W := ⟨_, rfl⟩
  rw [hw1] at X2 X3 X4 B3
  have HSP := Lib.hid (espan_any 5 o m ae n c l T wb (hr.later B3) hn hT)
  have HX2 := Lib.hid X2
  have HX3 := Lib.hid X3
  have HX4 := Lib.hid X4
  have HB3 := Lib.hid B3
  have HH := Lib.hid (h.later B3)
  have HW := Lib.hid h.below.size
  have HRW := Lib.hid (hr.later B3)
  have HND := Lib.hid hnd
  have HNS := Lib.hid hns
  have HN := Lib.hid hn
  clear X2 X3 X4 B3 rd rs h hnd hns hr hn hok hck
  obtain ⟨p, hp⟩ : ∃ z, (spanA ⟨5, o, m, l, T.data.toList⟩).1 = z := ⟨_, rfl⟩
  obtain ⟨q, hq⟩ : ∃ z, (spanA ⟨5, o, m, l, T.data.toList⟩).2 = z := ⟨_, rfl⟩
  rw [hp, hq] at HSP
  clear hp hq
  obtain ⟨y0, y1, y2, y3, y4⟩ := HX3.out.c5
  go_enter Try.func39, Try.ntmps39
  go_upto_region 1 with fail
  try rw [hw1]
  clear hw1
  obtain ⟨X, hX⟩ : ∃ X, w.heap.size = X := ⟨_, rfl⟩
  simp only [hX] at HX2 HX3 HX4 HW y0 y1 y2 y3 y4 ⊢
  have HXS := Lib.hid hX
  clear hX
  go_wp2_with fail
  refine HSP.out.mono ?_
  rintro e wo ⟨rfl, b2⟩
  have HK0 : Hid (KeepS w wo (.slice a1 nd c1) (.slice a2 ns c2)) := Lib.hid (KeepS.below _ _ (HB3.out.trans (b2.mono HB3.out.size)))
  have HR2 := Lib.hid (HX2.out.later b2)
  have HR3 := Lib.hid (HX3.out.later b2)
  have HR4 := Lib.hid (HX4.out.later b2)
  have HO := Lib.hid (HH.out.later b2)
  have HRR := Lib.hid (HRW.out.later b2)
  clear b2 y0 y1 y2 y3 y4 HSP HX2 HX3 HX4 HH HRW
  obtain ⟨x0, x1⟩ := HR2.out.c2
  obtain ⟨y0, y1, y2, y3, y4⟩ := HR3.out.c5
  have hns8 : ns < 8 := by rw [← HNS.out]; exact snap_none (check_right HCK.out) rfl HCK.out
  have HN8 := Lib.hid hns8
  have HDN : Hid (doneM s ⟨5, o, m, l, T.data.toList⟩ = ⟨s.data, s.snaps ++ [⟨T.data.toList, s.data⟩]⟩) := Lib.hid (by unfold doneM; simp)
  have HRD := Lib.hid (show Row wo a1 c1 s.data from by obtain ⟨q, p, hv, hrr⟩ := HO.out.data.row_n HND.out; simp only [Value.slice.injEq, true_and] at hv; obtain ⟨rfl, rfl⟩ := hv; exact hrr)
  have HKC := Lib.hid (fun W (hb : Below wo.heap.size wo W) => clone_any a1 nd c1 s.data W (HRD.out.later hb) HND.out (by omega))
  have HWX : Hid (X + 2 < wo.heap.size) := Lib.hid HR4.out.lt
  have uo0 : ∀ W, (zeroValue 38).run Try.prog W = .ok (.agg #[.string ⟨#[]⟩, .slice none 0 0]) W := fun W => by kernel_rfl
  have uo1 := Try.underlying30
  clear hns8
  go_upto_region 13 with fail
  clear x0 x1 y0 y1 y2 y3 y4
  -- REG I13
  refine wp_region_ptab (L := fun ph => match ph with | 0 => [cV (.pointer (some ⟨X, 1, none⟩)), cV (.slice a2 ns c2), cV (.pointer (some ⟨X + 1, 4, none⟩)), cV (.string T), cV (.pointer (some ⟨X, 0, none⟩)), cV (.slice a1 nd c1), obV wo s.data, ogV wo T s.data, orV wo T s.data, nV, cV (.pointer (some ⟨X, 1, none⟩)), tV] | 1 => [cV (.pointer (some ⟨X, 1, none⟩)), cV (.slice a2 ns c2), cV (.pointer (some ⟨X + 1, 4, none⟩)), cV (.string T), cV (.pointer (some ⟨X, 0, none⟩)), cV (.slice a1 nd c1), tV, tV, tV, ouV W0 (.slice a1 nd c1) (s.snaps ++ [(⟨T.data.toList, s.data⟩ : Od)]), cV (.pointer (some ⟨X, 1, none⟩)), tV] | _ => [cV (.pointer (some ⟨X, 1, none⟩)), cV (.slice a2 ns c2), cV (.pointer (some ⟨X + 1, 4, none⟩)), cV (.string T), cV (.pointer (some ⟨X, 0, none⟩)), cV (.slice a1 nd c1), tV, tV, tV, tV, cV (.pointer (some ⟨X, 1, none⟩)), tV]) (jDn W0 w wo X (.slice a1 nd c1) (.slice a2 ns c2) s (s.snaps ++ [(⟨T.data.toList, s.data⟩ : Od)])) [9, 11] [(0, 0), (0, 0), (0, 0), (0, 0), (0, 0), (0, 0), (0, 0), (0, 0), (0, 0), (0, 1), (0, 1), (1, 2)] [[(2, none)], [(49, some 0)], [(3, none)], [(51, some 2)], [(2, none)], [(53, some 4)], [(54, some 5)], [(52, some 3), (55, some 6)], [(56, some 7)], [(50, some 1), (57, some 8)], [(2, none)], [(59, some 10), (58, some 9)]] 12 2 91 (by kernel_rfl) rfl rfl rfl (by kernel_rfl) (by kernel_rfl) (by decide) (by kernel_rfl) ?_ ?_ ?_ ?_ ?_
  · exact jDn_st W0 w wo X _ _ s _
  · exact Below.refl _ _
  · show ∀ i, i < 12 → _
    iterate 12 (refine fls ?_ ?_)
    · exact fl0
    · intro hne lo hi ph hran hp1 hp2 a w1 hJ hsz hs      -- 0: slot 49
      obtain ⟨rfl, rfl⟩ : 0 = lo ∧ 0 = hi := Prod.mk.inj (Option.some.inj hran)
      obtain rfl : ph = 0 := by omega
      obtain ⟨h0, _⟩ := hs
      have h0 : a.tmps.getD 2 undef = .pointer (some ⟨X, 0, none⟩) := h0
      refine op_run rfl rfl (v := .pointer (some ⟨X, 1, none⟩)) (w' := w1) ?_ rfl (Below.refl _ _)
      simp [execOp, Act.eval, h0, go_sem]
    · intro hne lo hi ph hran hp1 hp2 a w1 hJ hsz hs      -- 1: slot 50
      obtain ⟨rfl, rfl⟩ : 0 = lo ∧ 0 = hi := Prod.mk.inj (Option.some.inj hran)
      obtain rfl : ph = 0 := by omega
      obtain ⟨h0, _⟩ := hs
      have h0 : a.tmps.getD 49 undef = .pointer (some ⟨X, 1, none⟩) := h0
      obtain ⟨k0, k1⟩ := (HR2.out.later (show Below wo.heap.size wo w1 from hJ)).c2
      refine op_run rfl rfl (v := .slice a2 ns c2) (w' := w1) ?_ rfl (Below.refl _ _)
      simp [execOp, Act.eval, h0, k1, go_sem]
    · intro hne lo hi ph hran hp1 hp2 a w1 hJ hsz hs      -- 2: slot 51
      obtain ⟨rfl, rfl⟩ : 0 = lo ∧ 0 = hi := Prod.mk.inj (Option.some.inj hran)
      obtain rfl : ph = 0 := by omega
      obtain ⟨h0, _⟩ := hs
      have h0 : a.tmps.getD 3 undef = .pointer (some ⟨X + 1, 0, none⟩) := h0
      refine op_run rfl rfl (v := .pointer (some ⟨X + 1, 4, none⟩)) (w' := w1) ?_ rfl (Below.refl _ _)
      simp [execOp, Act.eval, h0, go_sem]
    · intro hne lo hi ph hran hp1 hp2 a w1 hJ hsz hs      -- 3: slot 52
      obtain ⟨rfl, rfl⟩ : 0 = lo ∧ 0 = hi := Prod.mk.inj (Option.some.inj hran)
      obtain rfl : ph = 0 := by omega
      obtain ⟨h0, _⟩ := hs
      have h0 : a.tmps.getD 51 undef = .pointer (some ⟨X + 1, 4, none⟩) := h0
      obtain ⟨k0, k1, k2, k3, k4⟩ := (HR3.out.later (show Below wo.heap.size wo w1 from hJ)).c5
      refine op_run rfl rfl (v := .string T) (w' := w1) ?_ rfl (Below.refl _ _)
      simp [execOp, Act.eval, h0, k4, go_sem]
    · intro hne lo hi ph hran hp1 hp2 a w1 hJ hsz hs      -- 4: slot 53
      obtain ⟨rfl, rfl⟩ : 0 = lo ∧ 0 = hi := Prod.mk.inj (Option.some.inj hran)
      obtain rfl : ph = 0 := by omega
      obtain ⟨h0, _⟩ := hs
      have h0 : a.tmps.getD 2 undef = .pointer (some ⟨X, 0, none⟩) := h0
      refine op_run rfl rfl (v := .pointer (some ⟨X, 0, none⟩)) (w' := w1) ?_ rfl (Below.refl _ _)
      simp [execOp, Act.eval, h0, go_sem]
    · intro hne lo hi ph hran hp1 hp2 a w1 hJ hsz hs      -- 5: slot 54
      obtain ⟨rfl, rfl⟩ : 0 = lo ∧ 0 = hi := Prod.mk.inj (Option.some.inj hran)
      obtain rfl : ph = 0 := by omega
      obtain ⟨h0, _⟩ := hs
      have h0 : a.tmps.getD 53 undef = .pointer (some ⟨X, 0, none⟩) := h0
      obtain ⟨k0, k1⟩ := (HR2.out.later (show Below wo.heap.size wo w1 from hJ)).c2
      refine op_run rfl rfl (v := .slice a1 nd c1) (w' := w1) ?_ rfl (Below.refl _ _)
      simp [execOp, Act.eval, h0, k0, go_sem]
    · intro hne lo hi ph hran hp1 hp2 a w1 hJ hsz hs      -- 6: slot 55
      obtain ⟨rfl, rfl⟩ : 0 = lo ∧ 0 = hi := Prod.mk.inj (Option.some.inj hran)
      obtain rfl : ph = 0 := by omega
      obtain ⟨h0, _⟩ := hs
      have h0 : a.tmps.getD 54 undef = .slice a1 nd c1 := h0
      refine op_call rfl rfl (f := 44) (args := #[.slice a1 nd c1]) (by simp [execOp, Act.eval, resolve, h0, go_sem]) ?_
      exact (HKC.out w1 (show Below wo.heap.size wo w1 from hJ)).mono fun e w' ⟨v, h1, h2⟩ => ⟨v, h1, h2.back (show Below wo.heap.size wo w1 from hJ), h2.below⟩
    · intro hne lo hi ph hran hp1 hp2 a w1 hJ hsz hs      -- 7: slot 56
      obtain ⟨rfl, rfl⟩ : 0 = lo ∧ 0 = hi := Prod.mk.inj (Option.some.inj hran)
      obtain rfl : ph = 0 := by omega
      obtain ⟨h0, h1, _⟩ := hs
      have h0 : a.tmps.getD 52 undef = .string T := h0
      have g0 : a.tmps[52]?.getD undef = .string T := (Array.getD_eq_getD_getElem? ..).symm.trans h0
      have m1 : (obV wo s.data).p w1 (a.tmps.getD 55 undef) := h1
      have md : Own wo w1 (a.tmps.getD 55 undef) s.data := m1
      obtain ⟨d2, hd2⟩ : ∃ z, a.tmps.getD 55 undef = z := ⟨_, rfl⟩
      rw [hd2] at md
      have gd2 : a.tmps[55]?.getD undef = d2 := (Array.getD_eq_getD_getElem? ..).symm.trans hd2
      refine op_run rfl rfl (v := .agg #[.string T, d2]) (w' := w1) ?_ ⟨d2, rfl, md⟩ (Below.refl _ _)
      obtain ⟨ad, cd, rfl, _⟩ := md.row
      simp [execOp, Act.eval, h0, g0, hd2, gd2, go_sem]
    · intro hne lo hi ph hran hp1 hp2 a w1 hJ hsz hs      -- 8: slot 57
      obtain ⟨rfl, rfl⟩ : 0 = lo ∧ 0 = hi := Prod.mk.inj (Option.some.inj hran)
      obtain rfl : ph = 0 := by omega
      obtain ⟨h0, _⟩ := hs
      have m0 : (ogV wo T s.data).p w1 (a.tmps.getD 56 undef) := h0
      obtain ⟨d2, e56, md⟩ := (show ∃ d, a.tmps.getD 56 undef = .agg #[.string T, d] ∧ Own wo w1 d s.data from m0)
      have g56 : a.tmps[56]?.getD undef = .agg #[.string T, d2] := (Array.getD_eq_getD_getElem? ..).symm.trans e56
      have hba : Below w1.heap.size w1 (w1.alloc (.cells #[.string T, d2] 38)) := (Below.refl _ _).alloc (Nat.le_refl _) _
      refine op_run rfl rfl (v := .slice (some ⟨w1.heap.size, 0, none⟩) 1 1) (w' := w1.alloc (.cells #[.string T, d2] 38)) ?_ ⟨w1.heap.size, d2, rfl, RecAt.new w1 _ _, ((show Below wo.heap.size wo w1 from hJ)).size, md.later hba⟩ hba
      obtain ⟨ad, cd, rfl, _⟩ := md.row
      simp [execOp, Act.eval, e56, g56, go_sem, uo0, uo1]
    · intro hne lo hi ph hran hp1 hp2 a w1 hJ hsz hs      -- 9: slot 58
      exact absurd (by decide) hne
    · intro hne lo hi ph hran hp1 hp2 a w1 hJ hsz hs      -- 10: slot 59
      obtain ⟨rfl, rfl⟩ : 0 = lo ∧ 1 = hi := Prod.mk.inj (Option.some.inj hran)
      rcases (by omega : ph = 0 ∨ ph = 1) with rfl | rfl
      · obtain ⟨h0, _⟩ := hs
        have h0 : a.tmps.getD 2 undef = .pointer (some ⟨X, 0, none⟩) := h0
        refine op_run rfl rfl (v := .pointer (some ⟨X, 1, none⟩)) (w' := w1) ?_ rfl (Below.refl _ _)
        simp [execOp, Act.eval, h0, go_sem]
      · obtain ⟨h0, _⟩ := hs
        have h0 : a.tmps.getD 2 undef = .pointer (some ⟨X, 0, none⟩) := h0
        refine op_run rfl rfl (v := .pointer (some ⟨X, 1, none⟩)) (w' := w1) ?_ rfl (Below.refl _ _)
        simp [execOp, Act.eval, h0, go_sem]
    · intro hne lo hi ph hran hp1 hp2 a w1 hJ hsz hs      -- 11: slot None
      exact absurd (by decide) hne
  · show ∀ ph, ph < 2 → _
    iterate 2 (refine fls ?_ ?_)
    · exact fl0
    · intro i hi a w1 hJ hsz hs      -- heavy 0: op 9 slot 58
      obtain rfl : 9 = i := Option.some.inj hi
      obtain ⟨h0, h1, _⟩ := hs
      have h0 : a.tmps.getD 50 undef = .slice a2 ns c2 := h0
      have m1 : (orV wo T s.data).p w1 (a.tmps.getD 57 undef) := h1
      have hO := HO.out.later (show Below wo.heap.size wo w1 from hJ)
      obtain ⟨g, d2, hv1, hx, hxs, hd2⟩ := (show ∃ g d, a.tmps.getD 57 undef = .slice (some ⟨g, 0, none⟩) 1 1 ∧ RecAt w1 g #[.string T, d] 38 ∧ wo.heap.size ≤ g ∧ Own wo w1 d s.data from m1)
      have hone : ∀ u ∈ (#[.string T, d2] : Array Value).toList, u.oneCell' = true := by
        obtain ⟨ad, cd, rfl, _⟩ := hd2.row
        intro u hu
        simp at hu
        rcases hu with rfl | rfl <;> rfl
      have hbq : BU (lessJ (jS W0 (.slice a1 nd c1)) (.slice a2 ns c2)) w1 d2 s.data := BU.own_at hd2 fun k hk => by
        have hk1 := (hd2.ltB hk).1
        have hk2 := HO.out.below.size
        refine ⟨⟨by omega, fun e => ?_⟩, fun e => ?_⟩
        · have := (HO.out.data.ltB e).2; omega
        · have := (HO.out.snaps.ltB e.symm).2; omega
      refine hv_non odT_ok odu_rel rfl rfl (.tmp 50) (.tmp 57) rfl (.slice a2 ns c2) s.snaps h0 W0 hO.snaps g #[.string T, d2] hx rfl hone ⟨T.data.toList, s.data⟩ ⟨T, d2, rfl, rfl, hT, hbq⟩ hv1 (by have := HNS.out; have := HN8.out; omega) ?_
      intro v' w' o1 g1
      have hne := hO.noRec (HR2.out.later (show Below wo.heap.size wo w1 from hJ))
      have hne4 := hO.noRec (HR4.out.later (show Below wo.heap.size wo w1 from hJ))
      exact ⟨o1, ⟨(HR2.out.later (show Below wo.heap.size wo w1 from hJ)).grown g1 (fun e => hne.2 e.symm), (HR4.out.later (show Below wo.heap.size wo w1 from hJ)).grown g1 (fun e => hne4.2 e.symm), hO.data.keptG g1 hO.neDV (fun k hk => (hO.snaps.ltB hk).1), (HK0.out.later (show Below wo.heap.size wo w1 from hJ)).grown g1 (fun k e => .inr (.inr e))⟩, (Calm5.all (n := 0) ⟨.inr fun _ h => h, .inr fun _ h => h, .inr fun _ h => h, .inr fun _ h => h, .inr fun _ h => h, .inr fun _ h => h, .inr fun _ _ => trivial, .inr fun _ _ => trivial, .inr fun _ _ => trivial, .inl rfl, .inr fun _ h => h, .inr fun _ _ => trivial, trivial⟩)⟩
    · intro i hi a w1 hJ hsz hs      -- heavy 1: op 11 slot None
      obtain rfl : 11 = i := Option.some.inj hi
      obtain ⟨h0, h1, _⟩ := hs
      have h0 : a.tmps.getD 59 undef = .pointer (some ⟨X, 1, none⟩) := h0
      have g0 : a.tmps[59]?.getD undef = .pointer (some ⟨X, 1, none⟩) := (Array.getD_eq_getD_getElem? ..).symm.trans h0
      have m1 : (ouV W0 (.slice a1 nd c1) (s.snaps ++ [(⟨T.data.toList, s.data⟩ : Od)])).p w1 (a.tmps.getD 58 undef) := h1
      obtain ⟨q1, q2, q3, q4⟩ := (show jDn W0 w wo X (.slice a1 nd c1) (.slice a2 ns c2) s (s.snaps ++ [(⟨T.data.toList, s.data⟩ : Od)]) 1 w1 from hJ)
      have m1' : OU (jS W0 (.slice a1 nd c1)) W0 w1 (a.tmps.getD 58 undef) (s.snaps ++ [(⟨T.data.toList, s.data⟩ : Od)]) := m1
      obtain ⟨aE, cE, he⟩ := m1'.val odT_ok (rfl : (s.snaps ++ [(⟨T.data.toList, s.data⟩ : Od)]).length = (s.snaps ++ [(⟨T.data.toList, s.data⟩ : Od)]).length)
      have he2 : a.tmps[58]?.getD undef = .slice aE (s.snaps ++ [(⟨T.data.toList, s.data⟩ : Od)]).length cE := by rw [← Array.getD_eq_getD_getElem?]; exact he
      rw [he] at m1'
      have cc : w1.cell? ⟨X, 1, none⟩ = some (.slice a2 ns c2) := q1.cell rfl
      have cf := q1.frozen 1
      have hst : jDn W0 w wo X (.slice a1 nd c1) (.slice a2 ns c2) s (s.snaps ++ [(⟨T.data.toList, s.data⟩ : Od)]) 2 (w1.setCell ⟨X, 1, none⟩ (.slice aE (s.snaps ++ [(⟨T.data.toList, s.data⟩ : Od)]).length cE)) := by
        have gx := grown_set w1 X 1 (.slice aE (s.snaps ++ [(⟨T.data.toList, s.data⟩ : Od)]).length cE)
        have q5 : OwS W0 w1 (.slice a1 nd c1) (.slice aE (s.snaps ++ [(⟨T.data.toList, s.data⟩ : Od)]).length cE) ⟨s.data, s.snaps ++ [(⟨T.data.toList, s.data⟩ : Od)]⟩ := ⟨q3, m1'⟩
        exact ⟨aE, cE, q1.set 1 _, q2.other (by omega) 1 _, q5.over q1 gx HW.out, q4.grown gx (fun k e => by cases e; exact .inl (by rw [HXS.out]; exact Nat.le_refl _))⟩
      obtain ⟨LN, hLN⟩ : ∃ z, (s.snaps ++ [(⟨T.data.toList, s.data⟩ : Od)]).length = z := ⟨_, rfl⟩
      rw [hLN] at he he2 hst
      refine hv_skip rfl rfl (w' := w1.setCell ⟨X, 1, none⟩ (.slice aE LN cE)) ?_ trivial hst (Calm5.all (n := 0) ⟨.inr fun _ h => h, .inr fun _ h => h, .inr fun _ h => h, .inr fun _ h => h, .inr fun _ h => h, .inr fun _ h => h, .inr fun _ _ => trivial, .inr fun _ _ => trivial, .inr fun _ _ => trivial, .inr fun _ _ => trivial, .inr fun _ h => h, .inl rfl, trivial⟩)
      simp [execOp, Act.eval, h0, g0, he, he2, go_sem, cc, cf]
  intro f w1 hJ hv
  clear hv
  try simp only [Exit.then]
  simp only [putAll, List.foldl_cons, List.foldl_nil, Option.getD_some, Act.put, List.setIfInBounds_toArray, List.set_cons_succ, List.set_cons_zero]
  obtain ⟨av, cv, q1, q2, q3, q4⟩ := (show jDn W0 w wo X (.slice a1 nd c1) (.slice a2 ns c2) s (s.snaps ++ [(⟨T.data.toList, s.data⟩ : Od)]) 2 w1 from hJ)
  have HXF := Lib.hid q1
  have HXZ := Lib.hid q2
  have HOF := Lib.hid q3
  have HKF := Lib.hid q4
  clear hJ q1 q2 q3 q4
  go_upto_region 19 with fail
  -- END I13
  obtain ⟨LN, hLN⟩ : ∃ z, (s.snaps ++ [(⟨T.data.toList, s.data⟩ : Od)]).length = z := ⟨_, rfl⟩
  simp only [hLN] at HXF HOF
  clear hLN
  obtain ⟨x0, x1, y0, y1, y2, y3, y4⟩ : True ∧ True ∧ True ∧ True ∧ True ∧ True ∧ True := ⟨trivial, trivial, trivial, trivial, trivial, trivial, trivial⟩
  clear x0 x1 y0 y1 y2 y3 y4
  obtain ⟨z0, z1⟩ := HXF.out.c2
  go_wp2_with (refine wpList_rec rfl rfl (X + 2) zeroSt #[.slice a1 nd c1, .slice av LN cv] rfl rfl HXZ.out rfl (by kernel_rfl) (by simp [Value.oneCell']) ?_; intro w9 r1 r2 r3 r4)
  refine bodyPost_ret (results_c rfl rfl r1 Try.underlying32 rfl (by kernel_rfl)) rfl ?_
  rw [HDN.out]
  exact ⟨_, _, rfl, HOF.out.over HXZ.out r4 (Nat.le_trans HW.out (Nat.le_add_right _ _)), HKF.out.grown r4 (fun k e => by cases e; exact .inl (by rw [HXS.out]; exact Nat.le_add_right _ _))⟩
set_option maxRecDepth 20000 in
set_option maxHeartbeats 6400000 in
theorem pdone_p6 (h : OwS W0 w d v s) (hok : StOk s) (hr : Row w ae c l) (hn : l.length = n) (hT : T.size ≤ 9223372036854775807) (hck : checkM s ⟨6, o, m, l, T.data.toList⟩ = 0) :
    Calls Try.prog 39 #[.agg #[d, v], .agg #[.int .i64 6, .int .i64 o, .int .i64 m, .slice ae n c, .string T]] w fun e w' => DoneIs W0 w d v (doneM s ⟨6, o, m, l, T.data.toList⟩) e w' := by
  obtain ⟨a1, c1, a2, c2, rfl, rfl, rd, rs⟩ := h.st.open
  obtain ⟨hl1, hl2⟩ := rs.lim
  obtain ⟨nd, hnd⟩ : ∃ z, s.data.length = z := ⟨_, rfl⟩
  obtain ⟨ns, hns⟩ : ∃ z, s.snaps.length = z := ⟨_, rfl⟩
  have hsz := hok.size
  have hmany := hok.many
  have HOK := Lib.hid hok
  have HCK := Lib.hid hck
  simp only [hnd] at h hsz ⊢
  simp only [hns] at h hmany hl1 ⊢
  obtain ⟨X2, X3, X4, B3⟩ := three_recsS w #[.slice a1 nd c1, .slice a2 ns c2] #[.int .i64 6, .int .i64 o, .int .i64 m, .slice ae n c, .string T] zeroSt 32 46 32
  obtain ⟨wb, hw1⟩ : ∃ W, (((w.alloc (.cells #[.slice a1 nd c1, .slice a2 ns c2] 32)).alloc (.cells #[.int .i64 6, .int .i64 o, .int .i64 m, .slice ae n c, .string T] 46)).alloc (.cells zeroSt 32)) = W := ⟨_, rfl⟩
  rw [hw1] at X2 X3 X4 B3
  have HSP := Lib.hid (espan_any 6 o m ae n c l T wb (hr.later B3) hn hT)
  have HX2 := Lib.hid X2
  have HX3 := Lib.hid X3
  have HX4 := Lib.hid X4
  have HB3 := Lib.hid B3
  have HH := Lib.hid (h.later B3)
  have HW := Lib.hid h.below.size
  have HRW := Lib.hid (hr.later B3)
  have HND := Lib.hid hnd
  have HNS := Lib.hid hns
  have HN := Lib.hid hn
  clear X2 X3 X4 B3 rd rs h hnd hns hr hn hok hck
  obtain ⟨p, hp⟩ : ∃ z, (spanA ⟨6, o, m, l, T.data.toList⟩).1 = z := ⟨_, rfl⟩
  obtain ⟨q, hq⟩ : ∃ z, (spanA ⟨6, o, m, l, T.data.toList⟩).2 = z := ⟨_, rfl⟩
  rw [hp, hq] at HSP
  clear hp hq
  obtain ⟨y0, y1, y2, y3, y4⟩ := HX3.out.c5
  go_enter Try.func39, Try.ntmps39
  go_upto_region 1 with fail
  try rw [hw1]
  clear hw1
  obtain ⟨X, hX⟩ : ∃ X, w.heap.size = X := ⟨_, rfl⟩
  simp only [hX] at HX2 HX3 HX4 HW y0 y1 y2 y3 y4 ⊢
  have HXS := Lib.hid hX
  clear hX
  go_wp2_with fail
  refine HSP.out.mono ?_
  rintro e wo ⟨rfl, b2⟩
  have HK0 : Hid (KeepS w wo (.slice a1 nd c1) (.slice a2 ns c2)) := Lib.hid (KeepS.below _ _ (HB3.out.trans (b2.mono HB3.out.size)))
  have HR2 := Lib.hid (HX2.out.later b2)
  have HR3 := Lib.hid (HX3.out.later b2)
  have HR4 := Lib.hid (HX4.out.later b2)
  have HO := Lib.hid (HH.out.later b2)
  have HRR := Lib.hid (HRW.out.later b2)
  clear b2 y0 y1 y2 y3 y4 HSP HX2 HX3 HX4 HH HRW
  obtain ⟨x0, x1⟩ := HR2.out.c2
  obtain ⟨y0, y1, y2, y3, y4⟩ := HR3.out.c5
  obtain ⟨K, oK, hp1, hp2, hp3⟩ := name_fits (by omega) HCK.out
  have hKn : K < ns := by have := (List.getElem?_eq_some_iff.1 hp2).1; rw [HNS.out] at this; exact this
  have HPL := Lib.hid (fun W (hb : Below wo.heap.size wo W) => places_any a2 ns c2 s.snaps (newB W0) W (show QO (newB W0) W (.slice a2 ns c2) s.snaps from (HO.out.st.later hb).snaps) (by omega))
  have HPV : Hid ((placeV s.snaps T.data.toList).getD (.int .i64 0) = .int .i64 ((K : Nat) : Int)) := Lib.hid (by unfold placeV; rw [hp1]; rfl)
  have HDN : Hid (doneM s ⟨6, o, m, l, T.data.toList⟩ = ⟨s.data, s.snaps.eraseIdx K⟩) := Lib.hid (by unfold doneM; simp [hp1])
  obtain ⟨css, g1, g2⟩ := HO.out.snaps
  obtain ⟨g, cd, hd, -, -, -, -⟩ := g1.at (by rw [g2.1, HNS.out]) (by omega : 0 < ns)
  simp only [Value.slice.injEq] at hd
  obtain ⟨rfl, -, rfl⟩ := hd
  clear g1 g2
  have HEL : Hid ((s.snaps.eraseIdx K).length = ns - 1) := Lib.hid (by rw [List.length_eraseIdx, HNS.out]; simp [hKn])
  have HKI : Hid (K < ns) := Lib.hid hKn
  have hwr : wrap64 (((K : Nat) : Int) + 1) = ((K : Nat) : Int) + 1 := IntWalk.wrap64_in _ (by omega)
  clear hp1 hp2 hp3
  go_upto_region 15 with fail
  clear x0 x1 y0 y1 y2 y3 y4
  -- REG I15
  refine wp_region_tab (L := [cV (.pointer (some ⟨X, 1, none⟩)), cV (.slice (some ⟨g, 0, none⟩) ns c2), mpV s.snaps, cV (.pointer (some ⟨X + 1, 4, none⟩)), cV (.string T), cV (.int .i64 ((K : Nat) : Int)), cV (.int .i64 ((K : Nat) : Int))]) [[(2, none)], [(62, some 0)], [(63, some 1)], [(3, none)], [(65, some 3)], [(64, some 2), (66, some 4)], [(67, some 5)]] 7 91 (by kernel_rfl) rfl rfl (by kernel_rfl) (by kernel_rfl) ?_ ?_
  · show ∀ i, i < 7 → _
    iterate 7 (refine fls ?_ ?_)
    · exact fl0
    · intro a w1 hR hsz hs      -- 0: slot 62
      obtain ⟨h0, _⟩ := hs
      have h0 : a.tmps.getD 2 undef = .pointer (some ⟨X, 0, none⟩) := h0
      refine op_run rfl rfl (v := .pointer (some ⟨X, 1, none⟩)) (w' := w1) ?_ rfl (Below.refl _ _)
      simp [execOp, Act.eval, h0, go_sem]
    · intro a w1 hR hsz hs      -- 1: slot 63
      obtain ⟨h0, _⟩ := hs
      have h0 : a.tmps.getD 62 undef = .pointer (some ⟨X, 1, none⟩) := h0
      obtain ⟨k0, k1⟩ := (HR2.out.later hR).c2
      refine op_run rfl rfl (v := .slice (some ⟨g, 0, none⟩) ns c2) (w' := w1) ?_ rfl (Below.refl _ _)
      simp [execOp, Act.eval, h0, k1, go_sem]
    · intro a w1 hR hsz hs      -- 2: slot 64
      obtain ⟨h0, _⟩ := hs
      have h0 : a.tmps.getD 63 undef = .slice (some ⟨g, 0, none⟩) ns c2 := h0
      refine op_call rfl rfl (f := 53) (args := #[.slice (some ⟨g, 0, none⟩) ns c2]) (by simp [execOp, Act.eval, resolve, h0, go_sem]) ?_
      exact calls_mp (HPL.out w1 hR)
    · intro a w1 hR hsz hs      -- 3: slot 65
      obtain ⟨h0, _⟩ := hs
      have h0 : a.tmps.getD 3 undef = .pointer (some ⟨X + 1, 0, none⟩) := h0
      refine op_run rfl rfl (v := .pointer (some ⟨X + 1, 4, none⟩)) (w' := w1) ?_ rfl (Below.refl _ _)
      simp [execOp, Act.eval, h0, go_sem]
    · intro a w1 hR hsz hs      -- 4: slot 66
      obtain ⟨h0, _⟩ := hs
      have h0 : a.tmps.getD 65 undef = .pointer (some ⟨X + 1, 4, none⟩) := h0
      obtain ⟨k0, k1, k2, k3, k4⟩ := (HR3.out.later hR).c5
      refine op_run rfl rfl (v := .string T) (w' := w1) ?_ rfl (Below.refl _ _)
      simp [execOp, Act.eval, h0, k4, go_sem]
    · intro a w1 hR hsz hs      -- 5: slot 67
      obtain ⟨h0, h1, _⟩ := hs
      have m0 : (mpV s.snaps).p w1 (a.tmps.getD 64 undef) := h0
      have h1 : a.tmps.getD 66 undef = .string T := h1
      obtain ⟨bm, km, em, hm⟩ := (show ∃ b k, a.tmps.getD 64 undef = .map (some b) ∧ SMap w1 b (placeV s.snaps) k from m0)
      have hlk := hm.look1 Try.underlying69 zero_int hT
      rw [HPV.out] at hlk
      refine op_run rfl rfl (v := .int .i64 ((K : Nat) : Int)) (w' := w1) ?_ rfl (Below.refl _ _)
      simp [execOp, Act.eval, em, h1, hlk, go_sem]
    · intro a w1 hR hsz hs      -- 6: slot 8
      obtain ⟨h0, _⟩ := hs
      have h0 : a.tmps.getD 67 undef = .int .i64 ((K : Nat) : Int) := h0
      refine op_run rfl rfl (v := .int .i64 ((K : Nat) : Int)) (w' := w1) ?_ rfl (Below.refl _ _)
      simp [execOp, Act.eval, h0, go_sem]
  intro f w1 hR hv
  have e8 : f 8 = .int .i64 ((K : Nat) : Int) := hv 6 _ 8 rfl rfl
  clear hv
  try simp only [Exit.then]
  simp only [putAll, List.foldl_cons, List.foldl_nil, Option.getD_some, Act.put, List.setIfInBounds_toArray, List.set_cons_succ, List.set_cons_zero, e8]
  obtain ⟨wq, rfl⟩ : ∃ z, z = w1 := ⟨_, rfl⟩
  have HR2W := Lib.hid (HR2.out.later hR)
  have HR4W := Lib.hid (HR4.out.later hR)
  have HOW := Lib.hid (HO.out.later hR)
  have HKW := Lib.hid (HK0.out.later hR)
  clear hR e8
  -- END I15
  obtain ⟨t0, t1⟩ := HR2W.out.c2
  have HDL := Lib.hid (pdelete_any g ns c2 K s.snaps (jS W0 (.slice a1 nd c1)) W0 wq HOW.out.snaps HNS.out HKI.out (by omega))
  go_wp2_with fail
  refine HDL.out.mono ?_
  rintro e w6 ⟨rfl, hv6, g6⟩
  have hne := HOW.out.noRec HR2W.out
  have hne4 := HOW.out.noRec HR4W.out
  have hr26 := HR2W.out.grown g6 (fun e => hne.2 e.symm)
  have hr46 := HR4W.out.grown g6 (fun e => hne4.2 e.symm)
  have q6 := HOW.out.newSnaps hv6 g6
  have hk6 := HKW.out.grown g6 (fun k e => by cases e; exact .inr (.inr rfl))
  have t5 := hr26.cell (i := 1) rfl
  have t6 := hr26.frozen 1
  have gx := grown_set w6 X 1 (.slice (some ⟨g, 0, none⟩) (ns - 1) c2)
  have HXF : Hid (RecAt (w6.setCell ⟨X, 1, none⟩ (.slice (some ⟨g, 0, none⟩) (ns - 1) c2)) X #[.slice a1 nd c1, .slice (some ⟨g, 0, none⟩) (ns - 1) c2] tSt) := Lib.hid (hr26.set 1 _)
  have HXZ : Hid (RecAt (w6.setCell ⟨X, 1, none⟩ (.slice (some ⟨g, 0, none⟩) (ns - 1) c2)) (X + 2) zeroSt tSt) := Lib.hid (hr46.other (by omega) 1 _)
  have HOF := Lib.hid (q6.over hr26 gx HW.out)
  have HKF := Lib.hid (hk6.grown gx (fun k e => by cases e; exact .inl (by rw [HXS.out]; exact Nat.le_refl _)))
  clear hv6 g6 hne hne4 hr26 hr46 q6 hk6 gx t0 t1
  go_upto_region 19 with fail
  clear t5 t6
  obtain ⟨w7, hw7⟩ : ∃ W, w6.setCell ⟨X, 1, none⟩ (.slice (some ⟨g, 0, none⟩) (ns - 1) c2) = W := ⟨_, rfl⟩
  rw [hw7] at HXF HXZ HOF HKF
  try rw [hw7]
  clear hw7
  obtain ⟨x0, x1, y0, y1, y2, y3, y4⟩ : True ∧ True ∧ True ∧ True ∧ True ∧ True ∧ True := ⟨trivial, trivial, trivial, trivial, trivial, trivial, trivial⟩
  clear x0 x1 y0 y1 y2 y3 y4
  obtain ⟨z0, z1⟩ := HXF.out.c2
  go_wp2_with (refine wpList_rec rfl rfl (X + 2) zeroSt #[.slice a1 nd c1, .slice (some ⟨g, 0, none⟩) (ns - 1) c2] rfl rfl HXZ.out rfl (by kernel_rfl) (by simp [Value.oneCell']) ?_; intro w9 r1 r2 r3 r4)
  refine bodyPost_ret (results_c rfl rfl r1 Try.underlying32 rfl (by kernel_rfl)) rfl ?_
  rw [HDN.out]
  exact ⟨_, _, rfl, HOF.out.over HXZ.out r4 (Nat.le_trans HW.out (Nat.le_add_right _ _)), HKF.out.grown r4 (fun k e => by cases e; exact .inl (by rw [HXS.out]; exact Nat.le_add_right _ _))⟩
set_option maxRecDepth 20000 in
set_option maxHeartbeats 6400000 in
theorem pdone_p7 (h : OwS W0 w d v s) (hok : StOk s) (hr : Row w ae c l) (hn : l.length = n) (hT : T.size ≤ 9223372036854775807) (hck : checkM s ⟨7, o, m, l, T.data.toList⟩ = 0) :
    Calls Try.prog 39 #[.agg #[d, v], .agg #[.int .i64 7, .int .i64 o, .int .i64 m, .slice ae n c, .string T]] w fun e w' => DoneIs W0 w d v (doneM s ⟨7, o, m, l, T.data.toList⟩) e w' := by
  obtain ⟨a1, c1, a2, c2, rfl, rfl, rd, rs⟩ := h.st.open
  obtain ⟨hl1, hl2⟩ := rs.lim
  obtain ⟨nd, hnd⟩ : ∃ z, s.data.length = z := ⟨_, rfl⟩
  obtain ⟨ns, hns⟩ : ∃ z, s.snaps.length = z := ⟨_, rfl⟩
  have hsz := hok.size
  have hmany := hok.many
  have HOK := Lib.hid hok
  have HCK := Lib.hid hck
  simp only [hnd] at h hsz ⊢
  simp only [hns] at h hmany hl1 ⊢
  obtain ⟨X2, X3, X4, B3⟩ := three_recsS w #[.slice a1 nd c1, .slice a2 ns c2] #[.int .i64 7, .int .i64 o, .int .i64 m, .slice ae n c, .string T] zeroSt 32 46 32
  obtain ⟨wb, hw1⟩ : ∃ W, (((w.alloc (.cells #[.slice a1 nd c1, .slice a2 ns c2] 32)).alloc (.cells #[.int .i64 7, .int .i64 o, .int .i64 m, .slice ae n c, .string T] 46)).alloc (.cells zeroSt 32)) = W := ⟨_, rfl⟩
  rw [hw1] at X2 X3 X4 B3
  have HSP := Lib.hid (espan_any 7 o m ae n c l T wb (hr.later B3) hn hT)
  have HX2 := Lib.hid X2
  have HX3 := Lib.hid X3
  have HX4 := Lib.hid X4
  have HB3 := Lib.hid B3
  have HH := Lib.hid (h.later B3)
  have HW := Lib.hid h.below.size
  have HRW := Lib.hid (hr.later B3)
  have HND := Lib.hid hnd
  have HNS := Lib.hid hns
  have HN := Lib.hid hn
  clear X2 X3 X4 B3 rd rs h hnd hns hr hn hok hck
  obtain ⟨p, hp⟩ : ∃ z, (spanA ⟨7, o, m, l, T.data.toList⟩).1 = z := ⟨_, rfl⟩
  obtain ⟨q, hq⟩ : ∃ z, (spanA ⟨7, o, m, l, T.data.toList⟩).2 = z := ⟨_, rfl⟩
  rw [hp, hq] at HSP
  clear hp hq
  obtain ⟨y0, y1, y2, y3, y4⟩ := HX3.out.c5
  go_enter Try.func39, Try.ntmps39
  go_upto_region 1 with fail
  try rw [hw1]
  clear hw1
  obtain ⟨X, hX⟩ : ∃ X, w.heap.size = X := ⟨_, rfl⟩
  simp only [hX] at HX2 HX3 HX4 HW y0 y1 y2 y3 y4 ⊢
  have HXS := Lib.hid hX
  clear hX
  go_wp2_with fail
  refine HSP.out.mono ?_
  rintro e wo ⟨rfl, b2⟩
  have HK0 : Hid (KeepS w wo (.slice a1 nd c1) (.slice a2 ns c2)) := Lib.hid (KeepS.below _ _ (HB3.out.trans (b2.mono HB3.out.size)))
  have HR2 := Lib.hid (HX2.out.later b2)
  have HR3 := Lib.hid (HX3.out.later b2)
  have HR4 := Lib.hid (HX4.out.later b2)
  have HO := Lib.hid (HH.out.later b2)
  have HRR := Lib.hid (HRW.out.later b2)
  clear b2 y0 y1 y2 y3 y4 HSP HX2 HX3 HX4 HH HRW
  obtain ⟨x0, x1⟩ := HR2.out.c2
  obtain ⟨y0, y1, y2, y3, y4⟩ := HR3.out.c5
  obtain ⟨K, oK, hp1, hp2, hp3⟩ := name_fits (by omega) HCK.out
  have hKn : K < ns := by have := (List.getElem?_eq_some_iff.1 hp2).1; rw [HNS.out] at this; exact this
  have HPL := Lib.hid (fun W (hb : Below wo.heap.size wo W) => places_any a2 ns c2 s.snaps (newB W0) W (show QO (newB W0) W (.slice a2 ns c2) s.snaps from (HO.out.st.later hb).snaps) (by omega))
  have HPV : Hid ((placeV s.snaps T.data.toList).getD (.int .i64 0) = .int .i64 ((K : Nat) : Int)) := Lib.hid (by unfold placeV; rw [hp1]; rfl)
  have HDN : Hid (doneM s ⟨7, o, m, l, T.data.toList⟩ = ⟨oK.data, s.snaps⟩) := Lib.hid (by unfold doneM; simp [hp3])
  obtain ⟨bg, bo, SK, a3, c3, ha2, k0, k1, -, -, hrk⟩ := (show QO (newB W0) wo (.slice a2 ns c2) s.snaps from HO.out.st.snaps).o2 hp2
  subst ha2
  have HP1 : Hid (∀ W, Below wo.heap.size wo W → W.cell? ⟨bg, bo + K * 2 + 1, none⟩ = some (.slice a3 oK.data.length c3)) := Lib.hid fun W hb => by rw [hb.cell (World.block_lt_of_cell? _ _ k1)]; exact k1
  have HKC := Lib.hid (fun W (hb : Below wo.heap.size wo W) => clone_any a3 oK.data.length c3 oK.data W (hrk.later hb) rfl (by have := HOK.out.sizes oK (List.mem_of_getElem? hp2); omega))
  have HKI : Hid ((K : Int) < (ns : Int)) := Lib.hid (by omega)
  have HKN : Hid (¬ ((K : Nat) : Int) < 0) := Lib.hid (by omega)
  have HKK : Hid (K < ns) := Lib.hid hKn
  obtain ⟨LK, hLK⟩ : ∃ z, oK.data.length = z := ⟨_, rfl⟩
  rw [hLK] at HP1 HKC
  clear hp1 hp2 hp3 k0 k1 hrk hKn
  go_upto_region 18 with fail
  clear x0 x1 y0 y1 y2 y3 y4
  -- REG I18
  refine wp_region_ptab (L := fun ph => match ph with | 0 => [cV (.pointer (some ⟨X, 1, none⟩)), cV (.slice (some ⟨bg, bo, none⟩) ns c2), cV (.pointer (some ⟨X, 1, none⟩)), cV (.slice (some ⟨bg, bo, none⟩) ns c2), mpV s.snaps, cV (.pointer (some ⟨X + 1, 4, none⟩)), cV (.string T), cV (.int .i64 ((K : Nat) : Int)), cV (.pointer (some ⟨bg, bo + K * 2, none⟩)), cV (.pointer (some ⟨bg, bo + K * 2 + 1, none⟩)), cV (.slice a3 LK c3), obV wo oK.data, cV (.pointer (some ⟨X, 0, none⟩)), tV] | _ => [cV (.pointer (some ⟨X, 1, none⟩)), cV (.slice (some ⟨bg, bo, none⟩) ns c2), cV (.pointer (some ⟨X, 1, none⟩)), cV (.slice (some ⟨bg, bo, none⟩) ns c2), tV, cV (.pointer (some ⟨X + 1, 4, none⟩)), cV (.string T), cV (.int .i64 ((K : Nat) : Int)), cV (.pointer (some ⟨bg, bo + K * 2, none⟩)), cV (.pointer (some ⟨bg, bo + K * 2 + 1, none⟩)), cV (.slice a3 LK c3), tV, cV (.pointer (some ⟨X, 0, none⟩)), tV]) (jRl W0 w wo X (.slice a1 nd c1) (.slice (some ⟨bg, bo, none⟩) ns c2) ⟨oK.data, s.snaps⟩) [13] [(0, 0), (0, 0), (0, 0), (0, 0), (0, 0), (0, 0), (0, 0), (0, 0), (0, 0), (0, 0), (0, 0), (0, 0), (0, 0), (0, 1)] [[(2, none)], [(77, some 0)], [(2, none)], [(79, some 2)], [(80, some 3)], [(3, none)], [(82, some 5)], [(81, some 4), (83, some 6)], [(78, some 1), (84, some 7)], [(85, some 8)], [(86, some 9)], [(87, some 10)], [(2, none)], [(89, some 12), (88, some 11)]] 14 1 91 (by kernel_rfl) rfl rfl rfl (by kernel_rfl) (by kernel_rfl) (by decide) (by kernel_rfl) ?_ ?_ ?_ ?_ ?_
  · exact jRl_st W0 w wo X _ _ _
  · exact Below.refl _ _
  · show ∀ i, i < 14 → _
    iterate 14 (refine fls ?_ ?_)
    · exact fl0
    · intro hne lo hi ph hran hp1 hp2 a w1 hJ hsz hs      -- 0: slot 77
      obtain ⟨rfl, rfl⟩ : 0 = lo ∧ 0 = hi := Prod.mk.inj (Option.some.inj hran)
      obtain rfl : ph = 0 := by omega
      obtain ⟨h0, _⟩ := hs
      have h0 : a.tmps.getD 2 undef = .pointer (some ⟨X, 0, none⟩) := h0
      refine op_run rfl rfl (v := .pointer (some ⟨X, 1, none⟩)) (w' := w1) ?_ rfl (Below.refl _ _)
      simp [execOp, Act.eval, h0, go_sem]
    · intro hne lo hi ph hran hp1 hp2 a w1 hJ hsz hs      -- 1: slot 78
      obtain ⟨rfl, rfl⟩ : 0 = lo ∧ 0 = hi := Prod.mk.inj (Option.some.inj hran)
      obtain rfl : ph = 0 := by omega
      obtain ⟨h0, _⟩ := hs
      have h0 : a.tmps.getD 77 undef = .pointer (some ⟨X, 1, none⟩) := h0
      obtain ⟨k0, k1⟩ := (HR2.out.later (show Below wo.heap.size wo w1 from hJ)).c2
      refine op_run rfl rfl (v := .slice (some ⟨bg, bo, none⟩) ns c2) (w' := w1) ?_ rfl (Below.refl _ _)
      simp [execOp, Act.eval, h0, k1, go_sem]
    · intro hne lo hi ph hran hp1 hp2 a w1 hJ hsz hs      -- 2: slot 79
      obtain ⟨rfl, rfl⟩ : 0 = lo ∧ 0 = hi := Prod.mk.inj (Option.some.inj hran)
      obtain rfl : ph = 0 := by omega
      obtain ⟨h0, _⟩ := hs
      have h0 : a.tmps.getD 2 undef = .pointer (some ⟨X, 0, none⟩) := h0
      refine op_run rfl rfl (v := .pointer (some ⟨X, 1, none⟩)) (w' := w1) ?_ rfl (Below.refl _ _)
      simp [execOp, Act.eval, h0, go_sem]
    · intro hne lo hi ph hran hp1 hp2 a w1 hJ hsz hs      -- 3: slot 80
      obtain ⟨rfl, rfl⟩ : 0 = lo ∧ 0 = hi := Prod.mk.inj (Option.some.inj hran)
      obtain rfl : ph = 0 := by omega
      obtain ⟨h0, _⟩ := hs
      have h0 : a.tmps.getD 79 undef = .pointer (some ⟨X, 1, none⟩) := h0
      obtain ⟨k0, k1⟩ := (HR2.out.later (show Below wo.heap.size wo w1 from hJ)).c2
      refine op_run rfl rfl (v := .slice (some ⟨bg, bo, none⟩) ns c2) (w' := w1) ?_ rfl (Below.refl _ _)
      simp [execOp, Act.eval, h0, k1, go_sem]
    · intro hne lo hi ph hran hp1 hp2 a w1 hJ hsz hs      -- 4: slot 81
      obtain ⟨rfl, rfl⟩ : 0 = lo ∧ 0 = hi := Prod.mk.inj (Option.some.inj hran)
      obtain rfl : ph = 0 := by omega
      obtain ⟨h0, _⟩ := hs
      have h0 : a.tmps.getD 80 undef = .slice (some ⟨bg, bo, none⟩) ns c2 := h0
      refine op_call rfl rfl (f := 53) (args := #[.slice (some ⟨bg, bo, none⟩) ns c2]) (by simp [execOp, Act.eval, resolve, h0, go_sem]) ?_
      exact calls_mp (HPL.out w1 (show Below wo.heap.size wo w1 from hJ))
    · intro hne lo hi ph hran hp1 hp2 a w1 hJ hsz hs      -- 5: slot 82
      obtain ⟨rfl, rfl⟩ : 0 = lo ∧ 0 = hi := Prod.mk.inj (Option.some.inj hran)
      obtain rfl : ph = 0 := by omega
      obtain ⟨h0, _⟩ := hs
      have h0 : a.tmps.getD 3 undef = .pointer (some ⟨X + 1, 0, none⟩) := h0
      refine op_run rfl rfl (v := .pointer (some ⟨X + 1, 4, none⟩)) (w' := w1) ?_ rfl (Below.refl _ _)
      simp [execOp, Act.eval, h0, go_sem]
    · intro hne lo hi ph hran hp1 hp2 a w1 hJ hsz hs      -- 6: slot 83
      obtain ⟨rfl, rfl⟩ : 0 = lo ∧ 0 = hi := Prod.mk.inj (Option.some.inj hran)
      obtain rfl : ph = 0 := by omega
      obtain ⟨h0, _⟩ := hs
      have h0 : a.tmps.getD 82 undef = .pointer (some ⟨X + 1, 4, none⟩) := h0
      obtain ⟨k0, k1, k2, k3, k4⟩ := (HR3.out.later (show Below wo.heap.size wo w1 from hJ)).c5
      refine op_run rfl rfl (v := .string T) (w' := w1) ?_ rfl (Below.refl _ _)
      simp [execOp, Act.eval, h0, k4, go_sem]
    · intro hne lo hi ph hran hp1 hp2 a w1 hJ hsz hs      -- 7: slot 84
      obtain ⟨rfl, rfl⟩ : 0 = lo ∧ 0 = hi := Prod.mk.inj (Option.some.inj hran)
      obtain rfl : ph = 0 := by omega
      obtain ⟨h0, h1, _⟩ := hs
      have m0 : (mpV s.snaps).p w1 (a.tmps.getD 81 undef) := h0
      have h1 : a.tmps.getD 83 undef = .string T := h1
      obtain ⟨bm, km, em, hm⟩ := (show ∃ b k, a.tmps.getD 81 undef = .map (some b) ∧ SMap w1 b (placeV s.snaps) k from m0)
      have hlk := hm.look1 Try.underlying69 zero_int hT
      rw [HPV.out] at hlk
      refine op_run rfl rfl (v := .int .i64 ((K : Nat) : Int)) (w' := w1) ?_ rfl (Below.refl _ _)
      simp [execOp, Act.eval, em, h1, hlk, go_sem]
    · intro hne lo hi ph hran hp1 hp2 a w1 hJ hsz hs      -- 8: slot 85
      obtain ⟨rfl, rfl⟩ : 0 = lo ∧ 0 = hi := Prod.mk.inj (Option.some.inj hran)
      obtain rfl : ph = 0 := by omega
      obtain ⟨h0, h1, _⟩ := hs
      have h0 : a.tmps.getD 78 undef = .slice (some ⟨bg, bo, none⟩) ns c2 := h0
      have h1 : a.tmps.getD 84 undef = .int .i64 ((K : Nat) : Int) := h1
      have k1 := HKI.out
      have k2 := HKN.out
      have k3 := HKK.out
      refine op_run rfl rfl (v := .pointer (some ⟨bg, bo + K * 2, none⟩)) (w' := w1) ?_ rfl (Below.refl _ _)
      simp [execOp, Act.eval, h0, h1, k1, k2, k3, go_sem]
    · intro hne lo hi ph hran hp1 hp2 a w1 hJ hsz hs      -- 9: slot 86
      obtain ⟨rfl, rfl⟩ : 0 = lo ∧ 0 = hi := Prod.mk.inj (Option.some.inj hran)
      obtain rfl : ph = 0 := by omega
      obtain ⟨h0, _⟩ := hs
      have h0 : a.tmps.getD 85 undef = .pointer (some ⟨bg, bo + K * 2, none⟩) := h0
      refine op_run rfl rfl (v := .pointer (some ⟨bg, bo + K * 2 + 1, none⟩)) (w' := w1) ?_ rfl (Below.refl _ _)
      simp [execOp, Act.eval, h0, go_sem]
    · intro hne lo hi ph hran hp1 hp2 a w1 hJ hsz hs      -- 10: slot 87
      obtain ⟨rfl, rfl⟩ : 0 = lo ∧ 0 = hi := Prod.mk.inj (Option.some.inj hran)
      obtain rfl : ph = 0 := by omega
      obtain ⟨h0, _⟩ := hs
      have h0 : a.tmps.getD 86 undef = .pointer (some ⟨bg, bo + K * 2 + 1, none⟩) := h0
      have k0 := HP1.out w1 (show Below wo.heap.size wo w1 from hJ)
      refine op_run rfl rfl (v := .slice a3 LK c3) (w' := w1) ?_ rfl (Below.refl _ _)
      simp [execOp, Act.eval, h0, k0, go_sem]
    · intro hne lo hi ph hran hp1 hp2 a w1 hJ hsz hs      -- 11: slot 88
      obtain ⟨rfl, rfl⟩ : 0 = lo ∧ 0 = hi := Prod.mk.inj (Option.some.inj hran)
      obtain rfl : ph = 0 := by omega
      obtain ⟨h0, _⟩ := hs
      have h0 : a.tmps.getD 87 undef = .slice a3 LK c3 := h0
      refine op_call rfl rfl (f := 44) (args := #[.slice a3 LK c3]) (by simp [execOp, Act.eval, resolve, h0, go_sem]) ?_
      exact (HKC.out w1 (show Below wo.heap.size wo w1 from hJ)).mono fun e w' ⟨v, h1, h2⟩ => ⟨v, h1, h2.back (show Below wo.heap.size wo w1 from hJ), h2.below⟩
    · intro hne lo hi ph hran hp1 hp2 a w1 hJ hsz hs      -- 12: slot 89
      obtain ⟨rfl, rfl⟩ : 0 = lo ∧ 0 = hi := Prod.mk.inj (Option.some.inj hran)
      obtain rfl : ph = 0 := by omega
      obtain ⟨h0, _⟩ := hs
      have h0 : a.tmps.getD 2 undef = .pointer (some ⟨X, 0, none⟩) := h0
      refine op_run rfl rfl (v := .pointer (some ⟨X, 0, none⟩)) (w' := w1) ?_ rfl (Below.refl _ _)
      simp [execOp, Act.eval, h0, go_sem]
    · intro hne lo hi ph hran hp1 hp2 a w1 hJ hsz hs      -- 13: slot None
      exact absurd (by decide) hne
  · show ∀ ph, ph < 1 → _
    iterate 1 (refine fls ?_ ?_)
    · exact fl0
    · intro i hi a w1 hJ hsz hs      -- heavy 0: op 13 slot None
      obtain rfl : 13 = i := Option.some.inj hi
      obtain ⟨h0, h1, _⟩ := hs
      have h0 : a.tmps.getD 89 undef = .pointer (some ⟨X, 0, none⟩) := h0
      have g0 : a.tmps[89]?.getD undef = .pointer (some ⟨X, 0, none⟩) := (Array.getD_eq_getD_getElem? ..).symm.trans h0
      have m1 : (obV wo oK.data).p w1 (a.tmps.getD 88 undef) := h1
      have hR2 := HR2.out.later (show Below wo.heap.size wo w1 from hJ)
      have hR4 := HR4.out.later (show Below wo.heap.size wo w1 from hJ)
      have m1' : Own wo w1 (a.tmps.getD 88 undef) oK.data := m1
      obtain ⟨aE, cE, he, -⟩ := m1'.row
      have he2 : a.tmps[88]?.getD undef = .slice aE oK.data.length cE := by rw [← Array.getD_eq_getD_getElem?]; exact he
      rw [he] at m1'
      have cc : w1.cell? ⟨X, 0, none⟩ = some (.slice a1 nd c1) := hR2.cell rfl
      have cf := hR2.frozen 0
      have hst : jRl W0 w wo X (.slice a1 nd c1) (.slice (some ⟨bg, bo, none⟩) ns c2) ⟨oK.data, s.snaps⟩ 1 (w1.setCell ⟨X, 0, none⟩ (.slice aE oK.data.length cE)) := by
        have gx := grown_set w1 X 0 (.slice aE oK.data.length cE)
        have q5 : OwS W0 w1 (.slice aE oK.data.length cE) (.slice (some ⟨bg, bo, none⟩) ns c2) ⟨oK.data, s.snaps⟩ := HO.out.newData m1'
        exact ⟨aE, cE, hR2.set 0 _, hR4.other (by omega) 0 _, q5.over hR2 gx HW.out, (HK0.out.later (show Below wo.heap.size wo w1 from hJ)).grown gx (fun k e => by cases e; exact .inl (by rw [HXS.out]; exact Nat.le_refl _))⟩
      obtain ⟨LN, hLN⟩ : ∃ z, oK.data.length = z := ⟨_, rfl⟩
      rw [hLN] at he he2 hst
      refine hv_skip rfl rfl (w' := w1.setCell ⟨X, 0, none⟩ (.slice aE LN cE)) ?_ trivial hst (Calm5.all (n := 0) ⟨.inr fun _ h => h, .inr fun _ h => h, .inr fun _ h => h, .inr fun _ h => h, .inr fun _ _ => trivial, .inr fun _ h => h, .inr fun _ h => h, .inr fun _ h => h, .inr fun _ h => h, .inr fun _ h => h, .inr fun _ h => h, .inr fun _ _ => trivial, .inr fun _ h => h, .inl rfl, trivial⟩)
      simp [execOp, Act.eval, h0, g0, he, he2, go_sem, cc, cf]
  intro f w1 hJ hv
  clear hv
  try simp only [Exit.then]
  simp only [putAll, List.foldl_cons, List.foldl_nil, Option.getD_some, Act.put, List.setIfInBounds_toArray, List.set_cons_succ, List.set_cons_zero]
  obtain ⟨ad, cd, q1, q2, q3, q4⟩ := (show jRl W0 w wo X (.slice a1 nd c1) (.slice (some ⟨bg, bo, none⟩) ns c2) ⟨oK.data, s.snaps⟩ 1 w1 from hJ)
  have HXF := Lib.hid q1
  have HXZ := Lib.hid q2
  have HOF := Lib.hid q3
  have HKF := Lib.hid q4
  clear hJ q1 q2 q3 q4
  go_upto_region 19 with fail
  -- END I18
  simp only [hLK] at HXF HOF
  clear hLK
  obtain ⟨x0, x1, y0, y1, y2, y3, y4⟩ : True ∧ True ∧ True ∧ True ∧ True ∧ True ∧ True := ⟨trivial, trivial, trivial, trivial, trivial, trivial, trivial⟩
  clear x0 x1 y0 y1 y2 y3 y4
  obtain ⟨z0, z1⟩ := HXF.out.c2
  go_wp2_with (refine wpList_rec rfl rfl (X + 2) zeroSt #[.slice ad LK cd, .slice (some ⟨bg, bo, none⟩) ns c2] rfl rfl HXZ.out rfl (by kernel_rfl) (by simp [Value.oneCell']) ?_; intro w9 r1 r2 r3 r4)
  refine bodyPost_ret (results_c rfl rfl r1 Try.underlying32 rfl (by kernel_rfl)) rfl ?_
  rw [HDN.out]
  exact ⟨_, _, rfl, HOF.out.over HXZ.out r4 (Nat.le_trans HW.out (Nat.le_add_right _ _)), HKF.out.grown r4 (fun k e => by cases e; exact .inl (by rw [HXS.out]; exact Nat.le_add_right _ _))⟩
end
theorem pdone_any (d v : Value) (s : Sx) (k o m : Int) (ae : Option Addr) (n c : Nat) (l : List UInt8) (T : ByteArray) (W0 w : World) (h : OwS W0 w d v s) (hok : StOk s) (hr : Row w ae c l) (hn : l.length = n) (hT : T.size ≤ 9223372036854775807) (hck : checkM s ⟨k, o, m, l, T.data.toList⟩ = 0) :
    Calls Try.prog 39 #[.agg #[d, v], .agg #[.int .i64 k, .int .i64 o, .int .i64 m, .slice ae n c, .string T]] w fun e w' => DoneIs W0 w d v (doneM s ⟨k, o, m, l, T.data.toList⟩) e w' := by
  have hk := right_kind (check_right hck)
  simp only at hk
  rcases (show k = 1 ∨ k = 2 ∨ k = 3 ∨ k = 4 ∨ k = 5 ∨ k = 6 ∨ k = 7 ∨ k = 8 by omega) with rfl | rfl | rfl | rfl | rfl | rfl | rfl | rfl
  · exact pdone_p1 d v s o m ae n c l T W0 w h hok hr hn hT hck
  · exact pdone_p2 d v s o m ae n c l T W0 w h hok hr hn hT hck
  · exact pdone_p3 d v s o m ae n c l T W0 w h hok hr hn hT hck
  · exact pdone_p4 d v s o m ae n c l T W0 w h hok hr hn hT hck
  · exact pdone_p5 d v s o m ae n c l T W0 w h hok hr hn hT hck
  · exact pdone_p6 d v s o m ae n c l T W0 w h hok hr hn hT hck
  · exact pdone_p7 d v s o m ae n c l T W0 w h hok hr hn hT hck
  · exact pdone_p8 d v s o m ae n c l T W0 w h hok hr hn hT hck
end Go.Proofs.Ytbpddcmehjgleaa
