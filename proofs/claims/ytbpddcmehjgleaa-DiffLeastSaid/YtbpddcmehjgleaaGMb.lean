/- Images: the program's own New, Same. | Images: a state of one's own, whose memory may be written. | Images: the program's own clone. | Images: slices.Delete of one snapshot, in place. -/
import Derived.Test.YtbpddcmehjgleaaGMg
import Derived.Test.YtbpddcmehjgleaaSameG
import Derived.Test.YtbpddcmehjgleaaBy
import Derived.Test.YtbpddcmehjgleaaCl
import Derived.Test.YtbpddcmehjgleaaGMc
namespace Go.Proofs.Ytbpddcmehjgleaa
open Go.RowKit Go.Proofs
set_option linter.unusedVariables false
set_option linter.unusedSimpArgs false
set_option linter.unnecessarySimpa false

theorem below_rec (w : World) (cs : Array Value) (T : TypeId) : Below w.heap.size w (w.alloc (.cells cs T)) := (Below.refl _ _).alloc (Nat.le_refl _) _
set_option maxRecDepth 20000 in
set_option maxHeartbeats 3200000 in
theorem pnew14_any (size : Int) (w : World) :
    Calls Try.prog 21 #[.int .i64 size] w fun e w' => FoldIs (newB w) w (newM size) e w' := by
  have HB0 := Lib.hid (below_rec w zeroSt 32)
  have HX0 := Lib.hid (RecAt.new w zeroSt 32)
  have hH5 := heldM_le size
  have HNEW : Hid (newM size = ⟨List.replicate (heldM size) 0, []⟩) := Lib.hid rfl
  obtain ⟨H, hH⟩ : ∃ H, heldM size = H := ⟨_, rfl⟩
  rw [hH] at hH5 HNEW
  have hHE : (size < 0 ∧ H = 0) ∨ (0 ≤ size ∧ size ≤ 512 ∧ size = H) ∨ (512 < size ∧ H = 512) := by unfold heldM at hH; omega
  clear hH
  have hmx : ∀ W (ts : Array TypeId) (t : TypeId), (Builtin.max_ ts t #[.int .i64 size, .int .i64 0]).run Try.prog W = .ok (.int .i64 (max size 0)) W := fun W ts t => by
    have e : (if (0 : Int) > size then (0 : Int) else size) = max size 0 := by split <;> omega
    rw [← e]
    simp [Builtin.max_, Builtin.max2]
  have hmn : ∀ W (ts : Array TypeId) (t : TypeId), (Builtin.min_ ts t #[.int .i64 (max size 0), .int .i64 512]).run Try.prog W = .ok (.int .i64 ((H : Nat) : Int)) W := fun W ts t => by
    have e : (if (512 : Int) < max size 0 then (512 : Int) else max size 0) = ((H : Nat) : Int) := by split <;> omega
    rw [← e]
    simp [Builtin.min_, Builtin.min2]
  go_enter Try.func21, Try.ntmps21
  go_upto_region 1 with fail
  obtain ⟨w1, hw1⟩ : ∃ W, w.alloc (.cells zeroSt 32) = W := ⟨_, rfl⟩
  rw [hw1] at HX0 HB0
  try rw [hw1]
  clear hw1
  obtain ⟨X, hX⟩ : ∃ X, w.heap.size = X := ⟨_, rfl⟩
  rw [hX] at HX0 ⊢
  have HXS := Lib.hid hX
  clear hX
  go_wp2_with (first | (refine wp_zeros rfl _ _ rfl w1 (Below.refl _ _) .i64 .i64 H H H rfl rfl rfl rfl (by omega) ?_; intro w3 o3 b3) | (refine wpList_rec rfl rfl X zeroSt #[.slice (some ⟨w1.heap.size, 0, none⟩) H H, .slice none 0 0] rfl rfl (HX0.out.later b3) rfl (by kernel_rfl) (by kernel_rfl) ?_; intro w4 r1 r2 r3 r4))
  refine bodyPost_ret (results_c rfl rfl r1 Try.underlying32 rfl (by kernel_rfl)) rfl ?_
  have hb3 : Below w.heap.size w w3 := HB0.out.trans (b3.mono HB0.out.size)
  have hX1 := HXS.out
  refine ⟨_, _, rfl, ?_, hb3.grown r4 hb3.size (fun q e => by cases e; exact Nat.le_of_eq HXS.out)⟩
  rw [HNEW.out]
  have hq : BQ (newB w1) w3 (.slice (some ⟨w1.heap.size, 0, none⟩) H H) (List.replicate H 0) := BQ.own o3 (fun b h => h)
  have hX2 := HX0.out.lt
  refine ⟨(hq.keep (fun b hb hj => r3 b (fun e => ?_)) (Nat.le_of_eq r2.symm)).weak fun b _ hj => ?_, QRow.nil _ _⟩
  · subst e; unfold newB at hj; omega
  · have := HB0.out.size; unfold newB at hj ⊢; omega

/-! ### Same -/
set_option maxRecDepth 20000 in
set_option maxHeartbeats 3200000 in
theorem palike_any (S1 S2 : ByteArray) (a1 a2 : Option Addr) (n1 n2 c1 c2 : Nat) (l1 l2 : List UInt8) (w : World) (h1 : Row w a1 c1 l1) (h2 : Row w a2 c2 l2) (hn1 : l1.length = n1) (hn2 : l2.length = n2) :
    Calls Try.prog 42 #[.agg #[.string S1, .slice a1 n1 c1], .agg #[.string S2, .slice a2 n2 c2]] w fun e w' => e = .returned (.bool (decide ((⟨S1.data.toList, l1⟩ : Od) = ⟨S2.data.toList, l2⟩))) ∧ Below w.heap.size w w' := by
  obtain ⟨B, hB⟩ : ∃ B, decide ((⟨S1.data.toList, l1⟩ : Od) = ⟨S2.data.toList, l2⟩) = B := ⟨_, rfl⟩
  rw [hB]
  have HB : Hid (B = (decide (S1 = S2) && decide (l1 = l2))) := Lib.hid (by
    rw [← hB, Bool.eq_iff_iff]
    simp only [Od.mk.injEq, decide_eq_true_eq, Bool.and_eq_true, str_iff (S := S1) (T := S2) rfl rfl])
  clear hB
  obtain ⟨X2, X3, B3⟩ := two_recsS w #[.string S1, .slice a1 n1 c1] #[.string S2, .slice a2 n2 c2] 38 38
  obtain ⟨w1, hw1⟩ : ∃ W, ((w.alloc (.cells #[.string S1, .slice a1 n1 c1] 38)).alloc (.cells #[.string S2, .slice a2 n2 c2] 38)) = W := ⟨_, rfl⟩
  rw [hw1] at X2 X3 B3
  have HX2 := Lib.hid X2
  have HX3 := Lib.hid X3
  have HB3 := Lib.hid B3
  have HEQ := Lib.hid (equal_any a1 a2 n1 n2 c1 c2 l1 l2 w1 (h1.later B3) (h2.later B3) hn1 hn2)
  clear X2 X3 B3 h1 h2 hn1 hn2
  go_enter Try.func42, Try.ntmps42
  go_upto_region 1 with fail
  try rw [hw1]
  clear hw1
  obtain ⟨X, hX⟩ : ∃ X, w.heap.size = X := ⟨_, rfl⟩
  rw [hX] at HX2 HX3 ⊢
  have HXS := Lib.hid hX
  clear hX
  obtain ⟨x0, x1⟩ := HX2.out.c2
  obtain ⟨y0, y1⟩ := HX3.out.c2
  by_cases hs : S1 = S2
  · have hq : (S1.toList == S2.toList) = true := (sbeq_iff _ _).2 hs
    rw [decide_eq_true hs, Bool.true_and] at HB
    rw [← HB.out] at HEQ
    clear hs
    go_wp2_with fail
    refine HEQ.out.mono ?_
    rintro e w2 ⟨rfl, rfl⟩
    go_wp2_with fail
    cases B with
    | true => go_ret; exact ⟨rfl, HB3.out⟩
    | false => go_ret; exact ⟨rfl, HB3.out⟩
  · have hq : (S1.toList == S2.toList) = false := sbeq_no hs
    rw [decide_eq_false hs, Bool.false_and] at HB
    clear hs
    go_wp2_with fail
    go_ret
    exact ⟨ret_bool HB.out.symm, HB3.out⟩
set_option maxRecDepth 20000 in
set_option maxHeartbeats 6400000 in
theorem equalOd_any (a1 a2 : Option Addr) (n1 n2 c1 c2 : Nat) (l1 l2 : List Od) (J1 J2 : Nat → Prop) (w : World) (h1 : QO J1 w (.slice a1 n1 c1) l1) (h2 : QO J2 w (.slice a2 n2 c2) l2) :
    Calls Try.prog 41 #[.slice a1 n1 c1, .slice a2 n2 c2, .func (.func 42) #[] #[]] w fun e w' => e = .returned (.bool (decide (l1 = l2))) ∧ Below w.heap.size w w' := by
  obtain ⟨hn1, -, -, -⟩ := h1.cap
  obtain ⟨hn2, -, -, -⟩ := h2.cap
  obtain ⟨hl1, hl2⟩ := h1.lim
  obtain ⟨hl3, hl4⟩ := h2.lim
  obtain ⟨B, hB⟩ : ∃ B, decide (l1 = l2) = B := ⟨_, rfl⟩
  rw [hB]
  have HB := Lib.hid hB
  have HN1 := Lib.hid hn1
  have HN2 := Lib.hid hn2
  have HR1 := Lib.hid h1
  have HR2 := Lib.hid h2
  clear hB hn1 hn2 h1 h2
  go_enter Try.func41, Try.ntmps41
  by_cases hnm : n1 = n2
  · subst hnm
    have hqn : ((n1 : Int) != (n1 : Int)) = false := by simp
    go_wp2_with fail
    clear hqn
    go_loopw [17] (fun i wr => ∃ j : Nat, i = .int .i64 j ∧ j ≤ n1 ∧ Below w.heap.size w wr ∧ Hid (∀ k, k < j → l1[k]? = l2[k]?)) (fun i _ => n1 - (intOf i).toNat)
    case atStart => exact ⟨0, rfl, by omega, Below.refl _ _, Lib.hid (fun k h => by omega)⟩
    case round =>
      obtain ⟨j, rfl, hj, hb, HA⟩ := hrel
      have HBR := Lib.hid hb
      clear hb
      by_cases hjn : (j : Int) < n1
      · have hjn2 : j < n1 := by omega
        obtain ⟨e, he⟩ : ∃ e, l1[j]? = some e := ⟨l1[j]'(by have := HN1.out; omega), List.getElem?_eq_getElem _⟩
        obtain ⟨u, hu⟩ : ∃ e, l2[j]? = some e := ⟨l2[j]'(by have := HN2.out; omega), List.getElem?_eq_getElem _⟩
        obtain ⟨b1, f1, M1, e1, k1, rfl, p0, p1, hM1, -, R1⟩ := (HR1.out.later od_rel HBR.out).o2 he
        obtain ⟨b2, f2, M2, e2, k2, rfl, r0, r1, hM2, -, R2⟩ := (HR2.out.later od_rel HBR.out).o2 hu
        have HNE : Hid (e ≠ u → B = false) := Lib.hid fun h => by
          rw [← HB.out]; exact sameG_no (j := j) (by rw [he, hu]; simpa using h)
        have HEQ : Hid (e = u → ∀ k, k < j + 1 → l1[k]? = l2[k]?) := Lib.hid fun h k hk => by
          by_cases c : k = j
          · subst c; rw [he, hu, h]
          · exact HA.out k (by omega)
        obtain ⟨X2, X3, B3⟩ := two_recsS wr #[.string M1, .slice e1 e.data.length k1] #[.string M2, .slice e2 u.data.length k2] 38 38
        have hod1 : (⟨M1.data.toList, e.data⟩ : Od) = e := by rw [hM1]
        have hod2 : (⟨M2.data.toList, u.data⟩ : Od) = u := by rw [hM2]
        have HAL := Lib.hid (palike_any M1 M2 e1 e2 e.data.length u.data.length k1 k2 e.data u.data ((wr.alloc (.cells #[.string M1, .slice e1 e.data.length k1] 38)).alloc (.cells #[.string M2, .slice e2 u.data.length k2] 38)) (R1.later B3) (R2.later B3) rfl rfl)
        rw [hod1, hod2] at HAL
        have HB3 := Lib.hid B3
        clear he hu R1 R2 hM1 hM2 X2 X3 B3 hod1 hod2
        have g0 := ((below_rec wr #[.string M1, .slice e1 e.data.length k1] 38).cell (World.block_lt_of_cell? _ _ r0)).trans r0
        have g1 := ((below_rec wr #[.string M1, .slice e1 e.data.length k1] 38).cell (World.block_lt_of_cell? _ _ r1)).trans r1
        generalize e.data.length = L1 at *
        generalize u.data.length = L2 at *
        by_cases hee : e = u
        · rw [decide_eq_true hee] at HAL
          have HA2 := Lib.hid (HEQ.out hee)
          clear hee
          go_wp2_with fail
          refine HAL.out.mono ?_
          rintro e3 w3 ⟨rfl, b3⟩
          have HB4 := Lib.hid (HBR.out.trans ((HB3.out.trans (b3.mono HB3.out.size)).mono HBR.out.size))
          clear b3 p0 p1 r0 r1 g0 g1
          go_wp2_with fail
          go_roundw
          case rel => exact ⟨j + 1, by go_num, by omega, HB4.out, HA2⟩
          case measure => simp [intOf]; omega
        · rw [decide_eq_false hee] at HAL
          have HF := Lib.hid (HNE.out hee)
          clear hee
          go_wp2_with fail
          refine HAL.out.mono ?_
          rintro e3 w3 ⟨rfl, b3⟩
          have HB4 := Lib.hid (HBR.out.trans ((HB3.out.trans (b3.mono HB3.out.size)).mono HBR.out.size))
          clear b3 p0 p1 r0 r1 g0 g1
          go_wp2_with fail
          go_ret
          exact ⟨ret_bool HF.out.symm, HB4.out⟩
      · have hjN : j = n1 := by omega
        have HF : Hid (B = true) := Lib.hid (by rw [← HB.out]; exact sameG_yes HN1.out HN2.out (by rw [← hjN]; exact HA.out))
        clear hjN
        go_wp2_with fail
        go_ret
        exact ⟨ret_bool HF.out.symm, HBR.out⟩
  · have hqn : ((n1 : Int) != (n2 : Int)) = true := by simp; omega
    have HF : Hid (B = false) := Lib.hid (by rw [← HB.out, decide_eq_false_iff_not]; intro h; exact hnm (by rw [← HN1.out, ← HN2.out, h]))
    clear hnm
    go_wp2_with fail
    go_ret
    exact ⟨ret_bool HF.out.symm, Below.refl _ _⟩
set_option maxRecDepth 20000 in
set_option maxHeartbeats 6400000 in
theorem psame14_any (d1 v1 d2 v2 : Value) (s t : Sx) (J1 J2 : Nat → Prop) (w : World) (h1 : StA J1 w d1 v1 s) (h2 : StA J2 w d2 v2 t) (hs : MayS s) (ht : MayS t) :
    Calls Try.prog 23 #[.agg #[d1, v1], .agg #[d2, v2]] w fun e w' => e = .returned (.bool (decide (s = t))) ∧ Below w.heap.size w w' := by
  rw [sx_eq_iff]
  obtain ⟨a1, c1, a2, c2, rfl, rfl, rd, rs⟩ := h1.open
  obtain ⟨a3, c3, a4, c4, rfl, rfl, td, ts⟩ := h2.open
  obtain ⟨X2, X3, B3⟩ := two_recsS w #[.slice a1 s.data.length c1, .slice a2 s.snaps.length c2] #[.slice a3 t.data.length c3, .slice a4 t.snaps.length c4] 32 32
  obtain ⟨w1, hw1⟩ : ∃ W, ((w.alloc (.cells #[.slice a1 s.data.length c1, .slice a2 s.snaps.length c2] 32)).alloc (.cells #[.slice a3 t.data.length c3, .slice a4 t.snaps.length c4] 32)) = W := ⟨_, rfl⟩
  rw [hw1] at X2 X3 B3
  have HEQ := Lib.hid (equal_any a1 a3 _ _ c1 c3 s.data t.data w1 (rd.later B3) (td.later B3) rfl rfl)
  have HEO := Lib.hid (equalOd_any a2 a4 _ _ c2 c4 s.snaps t.snaps J1 J2 w1 (rs.later od_rel B3) (ts.later od_rel B3))
  obtain ⟨nd, hnd⟩ : ∃ z, s.data.length = z := ⟨_, rfl⟩
  obtain ⟨ns, hns⟩ : ∃ z, s.snaps.length = z := ⟨_, rfl⟩
  obtain ⟨md, hmd⟩ : ∃ z, t.data.length = z := ⟨_, rfl⟩
  obtain ⟨ms, hms⟩ : ∃ z, t.snaps.length = z := ⟨_, rfl⟩
  simp only [hnd, hns, hmd, hms] at X2 X3 hw1 HEQ HEO ⊢
  have HX2 := Lib.hid X2
  have HX3 := Lib.hid X3
  have HB3 := Lib.hid B3
  obtain ⟨B1, hB1⟩ : ∃ B, decide (s.data = t.data) = B := ⟨_, rfl⟩
  obtain ⟨B2, hB2⟩ : ∃ B, decide (s.snaps = t.snaps) = B := ⟨_, rfl⟩
  rw [hB1] at HEQ ⊢
  rw [hB2] at HEO ⊢
  clear X2 X3 B3 rd rs td ts h1 h2 hnd hns hmd hms hB1 hB2
  go_enter Try.func23, Try.ntmps23
  go_upto_region 1 with fail
  try rw [hw1]
  clear hw1
  obtain ⟨X, hX⟩ : ∃ X, w.heap.size = X := ⟨_, rfl⟩
  rw [hX] at HX2 HX3 ⊢
  have HXS := Lib.hid hX
  clear hX
  obtain ⟨x0, x1⟩ := HX2.out.c2
  obtain ⟨y0, y1⟩ := HX3.out.c2
  go_wp2_with fail
  refine HEQ.out.mono ?_
  rintro e w2 ⟨rfl, rfl⟩
  cases B1 with
  | true =>
    go_wp2_with fail
    refine HEO.out.mono ?_
    rintro e w3 ⟨rfl, b3⟩
    have HB4 := Lib.hid (HB3.out.trans (b3.mono HB3.out.size))
    clear b3 x0 x1 y0 y1
    cases B2 with
    | true => go_wp2_with fail; go_ret; exact ⟨rfl, HB4.out⟩
    | false => go_wp2_with fail; go_ret; exact ⟨rfl, HB4.out⟩
  | false =>
    go_wp2_with fail
    go_ret
    exact ⟨rfl, HB3.out⟩
end Go.Proofs.Ytbpddcmehjgleaa
namespace Go.Proofs.Ytbpddcmehjgleaa
open Go.RowKit Go.Proofs
set_option linter.unusedVariables false
set_option linter.unusedSimpArgs false
set_option linter.unnecessarySimpa false

/-! ### bytes that may be written -/
def unF (w : World) (v : Value) : Prop := ∀ k, v.ownBlock = some k → ∀ i, w.frozen? ⟨k, i, none⟩ = false
def BU (J : Nat → Prop) (w : World) (v : Value) (l : List UInt8) : Prop := BQ J w v l ∧ (l ≠ [] → unF w v)
theorem BQ.inOwn {J : Nat → Prop} {w : World} {v : Value} {l : List UInt8} (h : BQ J w v l) (hl : l ≠ []) {k : Nat} (hk : v.ownBlock = some k) : k < w.heap.size ∧ J k := by
  obtain ⟨a, cap, hv, hr, hj⟩ := h
  cases a with
  | none => rw [hv] at hk; simp [Value.ownBlock] at hk
  | some x =>
    rw [hv] at hk
    simp only [Value.ownBlock, Option.some.injEq] at hk
    subst hk
    exact hj hl x rfl
theorem BU.keep {J : Nat → Prop} {w w' : World} {v : Value} {l : List UInt8} (h : BU J w v l) (hb : ∀ b, b < w.heap.size → J b → w'.heap[b]? = w.heap[b]?) (hs : w.heap.size ≤ w'.heap.size) : BU J w' v l := by
  refine ⟨h.1.keep hb hs, fun hl k hk i => ?_⟩
  obtain ⟨h1, h2⟩ := h.1.inOwn hl hk
  rw [World.frozen?_of_block (w := w) (hb k h1 h2)]
  exact h.2 hl k hk i
theorem BU.weak {J J' : Nat → Prop} {w : World} {v : Value} {l : List UInt8} (h : BU J w v l) (hj : ∀ b, b < w.heap.size → J b → J' b) : BU J' w v l := ⟨h.1.weak hj, h.2⟩
theorem BU.own_at {J : Nat → Prop} {W0 w : World} {v : Value} {l : List UInt8} (h : Own W0 w v l) (hJ : ∀ k, v.ownBlock = some k → J k) : BU J w v l :=
  ⟨BQ.own_at h hJ, fun _ k hk i => by obtain ⟨cur, hr⟩ := h.recB hk; exact hr.frozen i⟩
theorem BU.nil (J : Nat → Prop) (w : World) : BU J w (.slice none 0 0) [] := ⟨BQ.nil J w, fun h => absurd rfl h⟩
def OdU : Rel Od := fun J w cs o => ∃ S v, cs = [.string S, v] ∧ S.data.toList = o.name ∧ S.size ≤ 9223372036854775807 ∧ BU J w v o.data
theorem odu_rel : RelOk OdU where
  keep := fun {J w w' cs t} h hb hs => by
    obtain ⟨S, v, h1, h2, h3, h4⟩ := h
    exact ⟨S, v, h1, h2, h3, h4.keep hb hs⟩
  weak := fun {J J' w cs t} h hj => by
    obtain ⟨S, v, h1, h2, h3, h4⟩ := h
    exact ⟨S, v, h1, h2, h3, h4.weak hj⟩
theorem OdU.od {J : Nat → Prop} {w : World} {cs : List Value} {o : Od} (h : OdU J w cs o) : OdR J w cs o := by
  obtain ⟨S, v, h1, h2, h3, h4⟩ := h
  exact ⟨S, v, h1, h2, h3, h4.1⟩
/-- Of J those blocks alone that may be written. -/
theorem OdU.new {J : Nat → Prop} {w : World} {cs : List Value} {o : Od} (h : OdU J w cs o) : OdR (fun b => J b ∧ ∀ i, w.frozen? ⟨b, i, none⟩ = false) w cs o := by
  obtain ⟨S, v, h1, h2, h3, ⟨a, cap, hv, hr, hj⟩, h5⟩ := h
  refine ⟨S, v, h1, h2, h3, a, cap, hv, hr, fun hl x hx => ⟨(hj hl x hx).1, (hj hl x hx).2, fun i => h5 hl x.block (by rw [hv, hx]; rfl) i⟩⟩
theorem no_byte (a1 a2 : Option Addr) (n1 n2 c1 c2 : Nat) : ∀ (i : Nat) (u : UInt8), (#[.slice a1 n1 c1, .slice a2 n2 c2] : Array Value)[i]? ≠ some (B8 u) := by
  intro i u e
  match i with
  | 0 => simp [B8] at e
  | 1 => simp [B8] at e
  | i + 2 => simp at e
theorem OdU.lessRec {J : Nat → Prop} {w : World} {cs : List Value} {o : Od} (h : OdU J w cs o) {P : Nat} {a1 a2 : Option Addr} {n1 n2 c1 c2 : Nat} {T : TypeId} (hr : RecAt w P #[.slice a1 n1 c1, .slice a2 n2 c2] T) : OdU (fun b => J b ∧ b ≠ P) w cs o := by
  obtain ⟨S, v, h1, h2, h3, h4, h5⟩ := h
  exact ⟨S, v, h1, h2, h3, h4.lessRec hr (no_byte _ _ _ _ _ _), h5⟩
abbrev OU (J : Nat → Prop) (W0 w : World) (v : Value) (l : List Od) : Prop := NOwn J 2 38 30 OdU W0 w v l

/-! ### a state of one's own -/
def jS (W0 : World) (d : Value) : Nat → Prop := fun b => W0.heap.size ≤ b ∧ d.ownBlock ≠ some b
structure OwS (W0 w : World) (d v : Value) (s : Sx) : Prop where
  data : Own W0 w d s.data
  snaps : OU (jS W0 d) W0 w v s.snaps
theorem NOwn.backN {α : Type} {sz : Nat} {tE tS : TypeId} {E : Rel α} {J : Nat → Prop} {W0 W1 w : World} {v : Value} {ts : List α} (h : NOwn J sz tE tS E W1 w v ts) (hb : Below W0.heap.size W0 W1) : NOwn J sz tE tS E W0 w v ts := by
  obtain ⟨css, h1, h2⟩ := h
  exact ⟨css, h1.back hb, h2⟩
theorem OwS.below {W0 w : World} {d v : Value} {s : Sx} (h : OwS W0 w d v s) : Below W0.heap.size W0 w := h.data.below
theorem OwS.later {W0 w w' : World} {d v : Value} {s : Sx} (h : OwS W0 w d v s) (hb : Below w.heap.size w w') : OwS W0 w' d v s := ⟨h.data.later hb, h.snaps.later odu_rel hb⟩
theorem OwS.back {W0 W1 w : World} {d v : Value} {s : Sx} (h : OwS W1 w d v s) (hb : Below W0.heap.size W0 W1) : OwS W0 w d v s :=
  ⟨h.data.back hb, (h.snaps.weakJ odu_rel fun b _ hj => ⟨Nat.le_trans hb.size hj.1, hj.2⟩).backN hb⟩
theorem OwS.neDV {W0 w : World} {d v : Value} {s : Sx} (h : OwS W0 w d v s) : d.ownBlock = none ∨ d.ownBlock ≠ v.ownBlock := h.data.neN h.snaps (by decide)
theorem OwS.neVD {W0 w : World} {d v : Value} {s : Sx} (h : OwS W0 w d v s) {k : Nat} (hk : d.ownBlock = some k) : v.ownBlock ≠ some k := fun e => by
  rcases h.neDV with h1 | h1
  · rw [h1] at hk; cases hk
  · exact h1 (hk.trans e.symm)
theorem OwS.noRec {W0 w : World} {d v : Value} {s : Sx} (h : OwS W0 w d v s) {P : Nat} {cs : Array Value} (hr : RecAt w P cs tSt) : d.ownBlock ≠ some P ∧ v.ownBlock ≠ some P := ⟨h.data.neT hr (by decide), h.snaps.neT hr (by decide)⟩
/-- As it is read: new memory, which may be written. -/
theorem OwS.stU {W0 w : World} {d v : Value} {s : Sx} (h : OwS W0 w d v s) : StA (newU W0 w) w d v s := by
  refine ⟨?_, ?_⟩
  · refine BQ.own_at h.data fun k hk => ⟨(h.data.ltB hk).1, fun i => ?_⟩
    obtain ⟨cur, hr⟩ := h.data.recB hk
    exact hr.frozen i
  · obtain ⟨css, h1, h2⟩ := h.snaps
    obtain ⟨a, cap, hv, hr⟩ := h1.row_n odT_ok rfl
    refine ⟨css, a, cap, by rw [hv, h2.1], hr, fun hl x hx => ?_, h2.mono fun c t hc => od_rel.weak hc.new fun b _ hj => ⟨hj.1.1.1, hj.2⟩⟩
    have hk : v.ownBlock = some x.block := by rw [hv, hx]; rfl
    obtain ⟨q1, q2⟩ := World.ownsRow.lt h1.1 _ hk
    refine ⟨q2, q1, fun i => ?_⟩
    rcases h1.1.2 with ⟨hv2, _⟩ | ⟨g', cap', cur, hv2, hb, hg, _⟩
    · rw [hv2] at hk; simp [Value.ownBlock] at hk
    · rw [hv2] at hk
      simp only [Value.ownBlock, Option.some.injEq] at hk
      subst hk
      exact RecAt.frozen (show RecAt w _ cur _ from hg) i
theorem OwS.st {W0 w : World} {d v : Value} {s : Sx} (h : OwS W0 w d v s) : StA (newB W0) w d v s := h.stU.weak fun b _ hj => hj.1
/-- A record of states is written. -/
theorem OwS.over {W0 w w' : World} {d v : Value} {s : Sx} (h : OwS W0 w d v s) {P : Nat} {a1 a2 : Option Addr} {n1 n2 c1 c2 : Nat} (hr : RecAt w P #[.slice a1 n1 c1, .slice a2 n2 c2] tSt) (r4 : w.grownBy w' (some P)) (hP : W0.heap.size ≤ P) : OwS W0 w' d v s := by
  refine ⟨h.data.keptG r4 (.inr (h.data.neT hr (by decide))) (fun k e => by cases e; exact hP), ?_⟩
  obtain ⟨css, g1, g2⟩ := h.snaps
  exact ⟨css, g1.keptBy r4 (.inr (g1.ne hr (by decide))) (fun k e => by cases e; exact hP), g2.mono fun c t hc => odu_rel.weak (odu_rel.keep (hc.lessRec hr) (fun b hb hj => r4.block b hb (fun e => by cases e; exact hj.2 rfl)) r4.size) fun b _ hj => hj.1⟩
/-- Other bytes in its place, made anew. -/
theorem OwS.newData {W0 w w' : World} {d d' v : Value} {s : Sx} {l : List UInt8} (h : OwS W0 w d v s) (hd : Own w w' d' l) : OwS W0 w' d' v ⟨l, s.snaps⟩ := by
  refine ⟨hd.back h.below, ?_⟩
  have h1 : OU (fun b => jS W0 d b ∧ b < w.heap.size) W0 w v s.snaps := h.snaps.weakJ odu_rel fun b hb hj => ⟨hj, hb⟩
  exact (h1.later odu_rel hd.below).weakJ odu_rel fun b _ hj => ⟨hj.1.1, fun e => by have := (hd.ltB e).1; omega⟩
/-- Its bytes are written. -/
theorem OwS.inData {W0 w w' : World} {d v : Value} {s : Sx} {g : Nat} {l : List UInt8} (h : OwS W0 w d v s) (hg : d.ownBlock = some g) (r4 : w.grownBy w' (some g)) (hd : Own W0 w' d l) : OwS W0 w' d v ⟨l, s.snaps⟩ := by
  refine ⟨hd, ?_⟩
  have hge := (h.data.ltB hg).1
  have hne := h.neVD hg
  obtain ⟨css, g1, g2⟩ := h.snaps
  exact ⟨css, g1.keptBy r4 (.inr hne) (fun k e => by cases e; exact hge), g2.mono fun c t hc => odu_rel.keep hc (fun b hb hj => r4.block b hb (fun e => by cases e; exact hj.1.2 hg)) r4.size⟩
/-- Other snapshots. -/
theorem OwS.newSnaps {W0 w w' : World} {d v v' : Value} {s : Sx} {l : List Od} (h : OwS W0 w d v s) (hv : OU (jS W0 d) W0 w' v' l) (r4 : w.grownBy w' v.ownBlock) : OwS W0 w' d v' ⟨s.data, l⟩ :=
  ⟨h.data.keptG r4 h.neDV (fun k hk => (h.snaps.ltB hk).1), hv⟩
/-- All that was there stays, but for the state's own memory. -/
def KeepS (w w' : World) (d v : Value) : Prop := w.heap.size ≤ w'.heap.size ∧ ∀ b, b < w.heap.size → d.ownBlock ≠ some b → v.ownBlock ≠ some b → w'.heap[b]? = w.heap[b]?
theorem KeepS.below {w w' : World} (d v : Value) (h : Below w.heap.size w w') : KeepS w w' d v := ⟨h.size, fun b hb _ _ => h.block b hb⟩
theorem KeepS.pre {w w1 w' : World} {d v : Value} (hb : Below w.heap.size w w1) (h : KeepS w1 w' d v) : KeepS w w' d v := ⟨Nat.le_trans hb.size h.1, fun b hlt h1 h2 => (h.2 b (by have := hb.size; omega) h1 h2).trans (hb.block b hlt)⟩
theorem KeepS.grown {w w1 w' : World} {d v : Value} {g : Option Nat} (h : KeepS w w1 d v) (hg : w1.grownBy w' g) (hk : ∀ k, g = some k → w.heap.size ≤ k ∨ d.ownBlock = some k ∨ v.ownBlock = some k) : KeepS w w' d v := by
  refine ⟨Nat.le_trans h.1 hg.size, fun b hb h1 h2 => (hg.block b (by have := h.1; omega) (fun e => ?_)).trans (h.2 b hb h1 h2)⟩
  rcases hk b e.symm with c | c | c
  · omega
  · exact h1 c
  · exact h2 c
theorem KeepS.keepRec {w w' : World} {d v : Value} (h : KeepS w w' d v) {W0 : World} {s : Sx} (ho : OwS W0 w d v s) {P : Nat} {cs : Array Value} (hr : RecAt w P cs tSt) : RecAt w' P cs tSt := by
  have := ho.noRec hr
  have hlt := hr.lt
  unfold RecAt at *
  rw [h.2 P hlt this.1 this.2]; exact hr
theorem grown_refl (w : World) (g : Option Nat) : w.grownBy w g := ⟨rfl, rfl, rfl, Nat.le_refl _, fun _ _ _ => rfl⟩
theorem grown_setRow (w : World) (g : Nat) (cs : Array Value) : w.grownBy (w.setRow g cs) (some g) := by
  refine ⟨rfl, rfl, rfl, by simp [World.setRow], fun k hk hne => ?_⟩
  simp only [World.setRow, Array.getElem?_modify]
  rw [if_neg (fun e => hne (by rw [e]))]

/-! ### rows of snapshots of one's own -/
def noOd : Od := ⟨[], []⟩
abbrev rOd : RT (Raw 2) := rawT 2 38 30
def rawZ : Raw 2 := ⟨[.string ⟨#[]⟩, .slice none 0 0], rfl, fun u hu => by simp at hu; rcases hu with rfl | rfl <;> rfl⟩
theorem made_two (x y : Value) (n : Nat) : (madeCells #[x, y] (n * 2)).toList = (List.replicate n [x, y]).flatten := by
  induction n with
  | zero => simp [madeCells]
  | succ n ih =>
    rw [List.replicate_succ', List.flatten_append, ← ih, show (n + 1) * 2 = n * 2 + 1 + 1 by omega]
    unfold madeCells
    rw [Array.range_succ, Array.range_succ]
    simp [Nat.add_mod]
section
variable {ops : Array Oper} {rest : List Oper} {o : Oper} {a : Act} {Q : Exit → Act → World → Prop}
/-- 'make([]api.Old, n)'. -/
theorem wp_odzeros {w : World} (hgd : o.guard = none) (l c : Operand) (ho : o.op = Op.makeSlice 30 l c) (W0 : World) (hb : Below W0.heap.size W0 w) (kl kc : IntKind) (L C : Int) (n : Nat)
    (hl : a.eval l = .int kl L) (hc : a.eval c = .int kc C) (hL : L = n) (hC : C = n) (hn : n ≤ 1000000)
    (h : ∀ w', GOwn rOd W0 w' (.slice (some ⟨w.heap.size, 0, none⟩) n n) (List.replicate n rawZ) → Below w.heap.size w w' → wpList Try.prog ops Q rest (a.put o.dst (.slice (some ⟨w.heap.size, 0, none⟩) n n)) w') : wpList Try.prog ops Q (o :: rest) a w := by
  obtain ⟨i0, hi, hz0, hz1, hz2⟩ := info_parts info_od
  refine wpList_make_full w hgd l c 30 ho W0.heap.size 38 i0 (.agg #[.string ⟨#[]⟩, .slice none 0 0]) 2 Try.underlying30 hi hz0 hz1 kl kc L C n hl hc hL hC (by rw [hz2]; omega) (by unfold maxLen; omega) hb.size ?_
  intro w' ho' hg
  have e : (madeCells (Value.agg #[.string ⟨#[]⟩, .slice none 0 0]).cells (n * 2)).toList = (List.replicate n rawZ).flatMap rOd.V := by
    rw [show (Value.agg #[.string ⟨#[]⟩, .slice none 0 0]).cells = #[.string ⟨#[]⟩, .slice none 0 0] from rfl, made_two, List.flatMap_replicate]
    rfl
  rw [e] at ho'
  exact h w' ⟨by rw [List.length_replicate]; exact ho', hb.grown hg hb.size (fun k hk => by cases hk), fun t ht => trivial⟩ ((Below.refl _ _).grown hg (Nat.le_refl _) (fun k hk => by cases hk))
end
theorem two_one {x y : Value} (hx : x.oneCell' = true) (hy : y.oneCell' = true) : ∀ u ∈ [x, y], u.oneCell' = true := by
  intro u hu
  simp at hu
  rcases hu with rfl | rfl
  · exact hx
  · exact hy
def raw2 (x y : Value) (hx : x.oneCell' = true) (hy : y.oneCell' = true) : Raw 2 := ⟨[x, y], rfl, two_one hx hy⟩
/-- One snapshot is written whole. -/
theorem OU.put {J : Nat → Prop} {W0 w : World} {g n cap : Nat} {l : List Od} (h : OU J W0 w (.slice (some ⟨g, 0, none⟩) n cap) l) (hn : l.length = n) {i : Nat} {o : Od} (hi : i < n) {x y : Value} (hx : x.oneCell' = true) (hy : y.oneCell' = true) (hE : OdU (lessJ J (.slice (some ⟨g, 0, none⟩) n cap)) w [x, y] o) :
    OU J W0 ((w.setCell ⟨g, i * 2, none⟩ x).setCell ⟨g, i * 2 + 1, none⟩ y) (.slice (some ⟨g, 0, none⟩) n cap) (l.set i o) ∧ w.grownBy ((w.setCell ⟨g, i * 2, none⟩ x).setCell ⟨g, i * 2 + 1, none⟩ y) (some g) ∧ (∃ u, w.cell? ⟨g, i * 2, none⟩ = some u) ∧ (∃ u, w.cell? ⟨g, i * 2 + 1, none⟩ = some u) := by
  obtain ⟨css, g1, g2⟩ := h
  have hcl : css.length = n := by rw [g2.1, hn]
  obtain ⟨c0, hc0⟩ : ∃ c, css[i]? = some c := ⟨css[i]'(by omega), List.getElem?_eq_getElem _⟩
  have hl0 : c0.1.length = 2 := c0.2.1
  obtain ⟨p, q, hpq⟩ : ∃ p q, c0.1 = [p, q] := by
    match hc : c0.1, hl0 with
    | [p, q], _ => exact ⟨p, q, rfl⟩
  have ho : ∀ u ∈ [p, q], u.oneCell' = true := by rw [← hpq]; exact c0.2.2
  have a1 := g1.stored odT_ok (by rw [hcl]) (i := i) (k := 0) (t := c0) (t' := raw2 x q hx (ho q (by simp))) (v := x) hc0 (by decide) (by show [x, q] = c0.1.set 0 x; rw [hpq]; rfl) trivial
  have hs1 : (css.set i (raw2 x q hx (ho q (by simp))))[i]? = some (raw2 x q hx (ho q (by simp))) := by rw [List.getElem?_set, if_pos rfl, if_pos (by omega)]
  have a2 := a1.stored odT_ok (by rw [List.length_set, hcl]) (i := i) (k := 1) (t' := raw2 x y hx hy) (v := y) hs1 (by decide) rfl trivial
  rw [List.set_set] at a2
  have gb : w.grownBy ((w.setCell ⟨g, i * 2, none⟩ x).setCell ⟨g, i * 2 + 1, none⟩ y) (some g) := by
    have b1 := grown_set w g (i * 2) x
    have b2 := grown_set (w.setCell ⟨g, i * 2, none⟩ x) g (i * 2 + 1) y
    exact ⟨b2.os.trans b1.os, b2.tape.trans b1.tape, b2.output.trans b1.output, Nat.le_trans b1.size b2.size, fun k hk hne => (b2.block k (by have := b1.size; omega) hne).trans (b1.block k hk hne)⟩
  obtain ⟨gr, hrow, hgr⟩ := g1.row_n odT_ok hcl
  obtain ⟨bb, off, hab, hq⟩ := hgr.2.at hc0
  have hbb : bb = g ∧ off = 0 := by
    have h1 := hgr.1
    simp only [Value.slice.injEq] at h1
    rw [← h1.1] at hab
    simp only [Option.some.injEq, Addr.mk.injEq] at hab
    exact ⟨hab.1.symm, hab.2.1.symm⟩
  obtain ⟨rfl, rfl⟩ := hbb
  refine ⟨⟨_, a2, (g2.mono fun c t hc => odu_rel.keep hc (fun b hb hj => gb.block b hb (fun e => by cases e; exact hj.2 rfl)) gb.size).set (odu_rel.keep hE (fun b hb hj => gb.block b hb (fun e => by cases e; exact hj.2 rfl)) gb.size)⟩, gb, ?_, ?_⟩
  · have := hq 0 p (by show c0.1[0]? = _; rw [hpq]; rfl)
    rw [Nat.zero_add, Nat.add_zero] at this
    exact ⟨p, this⟩
  · have := hq 1 q (by show c0.1[1]? = _; rw [hpq]; rfl)
    rw [Nat.zero_add] at this
    exact ⟨q, this⟩
end Go.Proofs.Ytbpddcmehjgleaa
namespace Go.Proofs.Ytbpddcmehjgleaa
open Go.RowKit Go.Proofs
set_option linter.unusedVariables false
set_option linter.unusedSimpArgs false
set_option linter.unnecessarySimpa false

/-- A record of two cells is stored at a place of a block. -/
theorem exec_store2 {P : Program} (W : World) (g off : Nat) (ty : TypeId) (x y : Value) (h0 : ∃ u, W.cell? ⟨g, off, none⟩ = some u) (h1 : ∃ u, W.cell? ⟨g, off + 1, none⟩ = some u) (hf : ∀ i, W.frozen? ⟨g, i, none⟩ = false) (hi : (P.info? ty).map (·.size) = some 2) (hx : x.oneCell' = true) (hy : y.oneCell' = true)
    (o : Oper) (ac : Act) (p v : Operand) (ho : o.op = .store ty p v) (hp : ac.eval p = .pointer (some ⟨g, off, none⟩)) (hv : ac.eval v = .agg #[x, y]) :
    (execOp ac.eval o).run P W = .ok .skip ((W.setCell ⟨g, off, none⟩ x).setCell ⟨g, off + 1, none⟩ y) := by
  unfold execOp
  have := run_storeAt_mid (P := P) W g off ty #[x, y] (fun j hj => by
    match j, hj with
    | 0, _ => obtain ⟨u, hu⟩ := h0; exact ⟨by rw [Nat.add_zero, hu]; rfl, hf _⟩
    | 1, _ => obtain ⟨u, hu⟩ := h1; exact ⟨by rw [hu]; rfl, hf _⟩) hi (by simp [hx, hy])
  simp only [ho, hp, hv, this, Sem.run_bind, Sem.run_pure, Result.andThen_ok]
  rfl
theorem NOwn.frozenAt {α : Type} {sz : Nat} {tE tS : TypeId} {E : Rel α} {J : Nat → Prop} {W0 w : World} {g n cap : Nat} {ts : List α} (h : NOwn J sz tE tS E W0 w (.slice (some ⟨g, 0, none⟩) n cap) ts) (hn : ts.length = n) (j : Nat) : w.frozen? ⟨g, j, none⟩ = false := by
  obtain ⟨css, g1, g2⟩ := h
  exact g1.frozenAt (by rw [g2.1, hn]) j
def jC (wb : World) (G n : Nat) (l : List Od) (wo : World) : Nat → World → Prop
  | 0, w => Below wo.heap.size wo w
  | _ + 1, w => OU (newB wb) wb w (.slice (some ⟨G, 0, none⟩) n n) l
theorem jC_st (wb : World) (G n : Nat) (l : List Od) (wo : World) : ∀ ph w1 w2, jC wb G n l wo ph w1 → Below w1.heap.size w1 w2 → jC wb G n l wo ph w2
  | 0, w1, w2, h, hb => Below.trans h (hb.mono (Below.size h))
  | _ + 1, w1, w2, h, hb => NOwn.later odu_rel h hb
theorem clone_list {l : List Od} {n j : Nat} {o : Od} (hn : l.length = n) (ho : l[j]? = some o) : (l.take j ++ List.replicate (n - j) noOd).set j o = l.take (j + 1) ++ List.replicate (n - (j + 1)) noOd := by
  obtain ⟨hj, rfl⟩ := List.getElem?_eq_some_iff.1 ho
  obtain ⟨k, hk⟩ : ∃ k, n - j = k + 1 := ⟨n - j - 1, by omega⟩
  rw [hk, show n - (j + 1) = k by omega, List.replicate_succ, List.set_append_right _ _ (by rw [List.length_take]; omega), List.length_take, Nat.min_eq_left (by omega), Nat.sub_self, List.set_cons_zero, List.take_add_one, ho, List.append_assoc]
  rfl
def CloneIs (w : World) (s : Sx) (e : Ending) (w' : World) : Prop := ∃ d v, e = .returned (.agg #[d, v]) ∧ OwS w w' d v s
set_option maxRecDepth 20000 in
set_option maxHeartbeats 6400000 in
theorem pclone_any (d v : Value) (s : Sx) (J : Nat → Prop) (w : World) (h : StA J w d v s) (hb1 : s.data.length ≤ 100000) (hb2 : s.snaps.length ≤ 1000) (hb3 : ∀ o ∈ s.snaps, o.data.length ≤ 100000) :
    Calls Try.prog 37 #[.agg #[d, v]] w fun e w' => CloneIs w s e w' := by
  obtain ⟨a1, c1, a2, c2, rfl, rfl, rd, rs⟩ := h.open
  obtain ⟨X2, X3, B3⟩ := two_recsS w #[.slice a1 s.data.length c1, .slice a2 s.snaps.length c2] zeroSt 32 32
  obtain ⟨wb, hw1⟩ : ∃ W, ((w.alloc (.cells #[.slice a1 s.data.length c1, .slice a2 s.snaps.length c2] 32)).alloc (.cells zeroSt 32)) = W := ⟨_, rfl⟩
  rw [hw1] at X2 X3 B3
  obtain ⟨nd, hnd⟩ : ∃ z, s.data.length = z := ⟨_, rfl⟩
  obtain ⟨ns, hns⟩ : ∃ z, s.snaps.length = z := ⟨_, rfl⟩
  rw [hnd] at X2 hw1 hb1 ⊢
  rw [hns] at X2 hw1 rs hb2 ⊢
  have HX2 := Lib.hid X2
  have HX3 := Lib.hid X3
  have HB3 := Lib.hid B3
  have HRD := Lib.hid (rd.later B3)
  have HRS := Lib.hid (rs.later od_rel B3)
  have HND := Lib.hid hnd
  have HNS := Lib.hid hns
  have HBS := Lib.hid hb3
  obtain ⟨hl1, hl2⟩ := rs.lim
  have HSZ : Hid (w.heap.size + 2 ≤ wb.heap.size) := Lib.hid (by have := X3.lt; omega)
  clear X2 X3 B3 rd rs h hnd hns hb3
  go_enter Try.func37, Try.ntmps37
  go_upto_region 1 with fail
  try rw [hw1]
  clear hw1
  obtain ⟨X, hX⟩ : ∃ X, w.heap.size = X := ⟨_, rfl⟩
  simp only [hX] at HX2 HX3 HSZ ⊢
  have HXS := Lib.hid hX
  clear hX
  obtain ⟨x0, x1⟩ := HX2.out.c2
  go_upto_region 2 with (refine wp_odzeros rfl (.tmp 8) (.tmp 8) rfl wb (Below.refl _ _) .i64 .i64 _ _ ns rfl rfl rfl rfl (by omega) ?_; intro w3 o3 b3)
  obtain ⟨G, hG⟩ : ∃ z, wb.heap.size = z := ⟨_, rfl⟩
  rw [hG] at o3 ⊢
  have HG := Lib.hid hG
  have HO3 : Hid (OU (newB wb) wb w3 (.slice (some ⟨G, 0, none⟩) ns ns) (List.replicate ns noOd)) := Lib.hid ⟨_, o3, by simp, fun i c t hc ht => by
    rw [List.getElem?_replicate] at hc ht
    split at hc
    · rename_i hlt
      rw [if_pos hlt] at ht
      cases hc; cases ht
      exact ⟨⟨#[]⟩, .slice none 0 0, rfl, rfl, by decide, BU.nil _ _⟩
    · cases hc⟩
  obtain ⟨x0', x1'⟩ := (HX2.out.later b3).c2
  clear o3 b3 x0 x1 hG
  go_wp2_with fail
  clear x0' x1'
  go_loopw [13] (fun i wr => ∃ j : Nat, i = .int .i64 j ∧ j ≤ ns ∧ Hid (OU (newB wb) wb wr (.slice (some ⟨G, 0, none⟩) ns ns) (s.snaps.take j ++ List.replicate (ns - j) noOd))) (fun i _ => ns - (intOf i).toNat)
  case atStart => exact ⟨0, rfl, by omega, by simpa using HO3⟩
  case round =>
    obtain ⟨j, rfl, hj, HOU⟩ := hrel
    have HBR := Lib.hid (show Below wb.heap.size wb wr from by obtain ⟨css, g1, _⟩ := HOU.out; exact g1.below)
    by_cases hjn : (j : Int) < ns
    · have hjn2 : j < ns := by omega
      obtain ⟨o, ho⟩ : ∃ e, s.snaps[j]? = some e := ⟨s.snaps[j]'(by have := HNS.out; omega), List.getElem?_eq_getElem _⟩
      obtain ⟨b1, f1, S, a3, c3, rfl, p0, p1, hS, hS2, hrw⟩ := (HRS.out.later od_rel HBR.out).o2 ho
      have HLS : Hid ((s.snaps.take j ++ List.replicate (ns - j) noOd).set j o = s.snaps.take (j + 1) ++ List.replicate (ns - (j + 1)) noOd) := Lib.hid (clone_list HNS.out ho)
      have HLN : Hid ((s.snaps.take j ++ List.replicate (ns - j) noOd).length = ns) := Lib.hid (by have := HNS.out; simp; omega)
      have hob := HBS.out o (List.mem_of_getElem? ho)
      have hba := below_rec wr #[.string S, .slice a3 o.data.length c3] 38
      have HXO := Lib.hid (RecAt.new wr #[.string S, .slice a3 o.data.length c3] 38)
      obtain ⟨wo, hwo⟩ : ∃ W, wr.alloc (.cells #[.string S, .slice a3 o.data.length c3] 38) = W := ⟨_, rfl⟩
      rw [hwo] at hba HXO
      have HOO := Lib.hid (HOU.out.later odu_rel hba)
      have HGW : Hid (G < wo.heap.size ∧ wb.heap.size ≤ wo.heap.size) := Lib.hid ⟨Nat.lt_of_lt_of_le (HOU.out.ltB (k := G) rfl).2 hba.size, Nat.le_trans HBR.out.size hba.size⟩
      have HKC := Lib.hid (fun W (hb : Below wo.heap.size wo W) => clone_any a3 o.data.length c3 o.data W ((hrw.later hba).later hb) rfl hob)
      obtain ⟨L, hL⟩ : ∃ z, o.data.length = z := ⟨_, rfl⟩
      rw [hL] at p1 HXO HKC hwo
      have HS := Lib.hid hS
      have HJN := Lib.hid hjn2
      have hjj : ¬ (j : Int) < 0 := by omega
      clear ho hrw hob hba hL hS
      go_upto_region 5 with fail
      try rw [hwo]
      obtain ⟨PO, hPO⟩ : ∃ z, wr.heap.size = z := ⟨_, rfl⟩
      rw [hPO] at HXO ⊢
      clear p0 p1 hwo hPO
      -- REG G5
      refine wp_region_ptab (L := fun ph => match ph with | 0 => [cV (.slice (some ⟨G, 0, none⟩) ns ns), cV (.int .i64 (j : Nat)), cV (.pointer (some ⟨PO, 0, none⟩)), cV (.string S), cV (.pointer (some ⟨PO, 1, none⟩)), cV (.slice a3 L c3), obV wo o.data, ogV wo S o.data, cV (.pointer (some ⟨G, j * 2, none⟩)), tV] | _ => [cV (.slice (some ⟨G, 0, none⟩) ns ns), cV (.int .i64 (j : Nat)), cV (.pointer (some ⟨PO, 0, none⟩)), cV (.string S), cV (.pointer (some ⟨PO, 1, none⟩)), cV (.slice a3 L c3), tV, tV, cV (.pointer (some ⟨G, j * 2, none⟩)), tV]) (jC wb G ns (s.snaps.take (j + 1) ++ List.replicate (ns - (j + 1)) noOd) wo) [9] [(0, 0), (0, 0), (0, 0), (0, 0), (0, 0), (0, 0), (0, 0), (0, 0), (0, 0), (0, 1)] [[(3, none)], [(4, none)], [(5, none)], [(20, some 2)], [(5, none)], [(22, some 4)], [(23, some 5)], [(21, some 3), (24, some 6)], [(18, some 0), (19, some 1)], [(26, some 8), (25, some 7)]] 10 1 33 (by kernel_rfl) rfl rfl rfl (by kernel_rfl) (by kernel_rfl) (by decide) (by kernel_rfl) ?_ ?_ ?_ ?_ ?_
      · exact jC_st wb G ns _ wo
      · exact Below.refl _ _
      · show ∀ i, i < 10 → _
        iterate 10 (refine fls ?_ ?_)
        · exact fl0
        · intro hne lo hi ph hran hp1 hp2 a w1 hJ hsz hs      -- 0: slot 18
          obtain ⟨rfl, rfl⟩ : 0 = lo ∧ 0 = hi := Prod.mk.inj (Option.some.inj hran)
          obtain rfl : ph = 0 := by omega
          obtain ⟨h0, _⟩ := hs
          have h0 : a.tmps.getD 3 undef = .slice (some ⟨G, 0, none⟩) ns ns := h0
          refine op_run rfl rfl (v := .slice (some ⟨G, 0, none⟩) ns ns) (w' := w1) ?_ rfl (Below.refl _ _)
          simp [execOp, Act.eval, h0, go_sem]
        · intro hne lo hi ph hran hp1 hp2 a w1 hJ hsz hs      -- 1: slot 19
          obtain ⟨rfl, rfl⟩ : 0 = lo ∧ 0 = hi := Prod.mk.inj (Option.some.inj hran)
          obtain rfl : ph = 0 := by omega
          obtain ⟨h0, _⟩ := hs
          have h0 : a.tmps.getD 4 undef = .int .i64 (j : Nat) := h0
          refine op_run rfl rfl (v := .int .i64 (j : Nat)) (w' := w1) ?_ rfl (Below.refl _ _)
          simp [execOp, Act.eval, h0, go_sem]
        · intro hne lo hi ph hran hp1 hp2 a w1 hJ hsz hs      -- 2: slot 20
          obtain ⟨rfl, rfl⟩ : 0 = lo ∧ 0 = hi := Prod.mk.inj (Option.some.inj hran)
          obtain rfl : ph = 0 := by omega
          obtain ⟨h0, _⟩ := hs
          have h0 : a.tmps.getD 5 undef = .pointer (some ⟨PO, 0, none⟩) := h0
          refine op_run rfl rfl (v := .pointer (some ⟨PO, 0, none⟩)) (w' := w1) ?_ rfl (Below.refl _ _)
          simp [execOp, Act.eval, h0, go_sem]
        · intro hne lo hi ph hran hp1 hp2 a w1 hJ hsz hs      -- 3: slot 21
          obtain ⟨rfl, rfl⟩ : 0 = lo ∧ 0 = hi := Prod.mk.inj (Option.some.inj hran)
          obtain rfl : ph = 0 := by omega
          obtain ⟨h0, _⟩ := hs
          have h0 : a.tmps.getD 20 undef = .pointer (some ⟨PO, 0, none⟩) := h0
          obtain ⟨k0, k1⟩ := (HXO.out.later (show Below wo.heap.size wo w1 from hJ)).c2
          refine op_run rfl rfl (v := .string S) (w' := w1) ?_ rfl (Below.refl _ _)
          simp [execOp, Act.eval, h0, k0, go_sem]
        · intro hne lo hi ph hran hp1 hp2 a w1 hJ hsz hs      -- 4: slot 22
          obtain ⟨rfl, rfl⟩ : 0 = lo ∧ 0 = hi := Prod.mk.inj (Option.some.inj hran)
          obtain rfl : ph = 0 := by omega
          obtain ⟨h0, _⟩ := hs
          have h0 : a.tmps.getD 5 undef = .pointer (some ⟨PO, 0, none⟩) := h0
          refine op_run rfl rfl (v := .pointer (some ⟨PO, 1, none⟩)) (w' := w1) ?_ rfl (Below.refl _ _)
          simp [execOp, Act.eval, h0, go_sem]
        · intro hne lo hi ph hran hp1 hp2 a w1 hJ hsz hs      -- 5: slot 23
          obtain ⟨rfl, rfl⟩ : 0 = lo ∧ 0 = hi := Prod.mk.inj (Option.some.inj hran)
          obtain rfl : ph = 0 := by omega
          obtain ⟨h0, _⟩ := hs
          have h0 : a.tmps.getD 22 undef = .pointer (some ⟨PO, 1, none⟩) := h0
          obtain ⟨k0, k1⟩ := (HXO.out.later (show Below wo.heap.size wo w1 from hJ)).c2
          refine op_run rfl rfl (v := .slice a3 L c3) (w' := w1) ?_ rfl (Below.refl _ _)
          simp [execOp, Act.eval, h0, k1, go_sem]
        · intro hne lo hi ph hran hp1 hp2 a w1 hJ hsz hs      -- 6: slot 24
          obtain ⟨rfl, rfl⟩ : 0 = lo ∧ 0 = hi := Prod.mk.inj (Option.some.inj hran)
          obtain rfl : ph = 0 := by omega
          obtain ⟨h0, _⟩ := hs
          have h0 : a.tmps.getD 23 undef = .slice a3 L c3 := h0
          refine op_call rfl rfl (f := 44) (args := #[.slice a3 L c3]) (by simp [execOp, Act.eval, resolve, h0, go_sem]) ?_
          exact (HKC.out w1 (show Below wo.heap.size wo w1 from hJ)).mono fun e w' ⟨v, h1, h2⟩ => ⟨v, h1, h2.back (show Below wo.heap.size wo w1 from hJ), h2.below⟩
        · intro hne lo hi ph hran hp1 hp2 a w1 hJ hsz hs      -- 7: slot 25
          obtain ⟨rfl, rfl⟩ : 0 = lo ∧ 0 = hi := Prod.mk.inj (Option.some.inj hran)
          obtain rfl : ph = 0 := by omega
          obtain ⟨h0, h1, _⟩ := hs
          have h0 : a.tmps.getD 21 undef = .string S := h0
          have g0 : a.tmps[21]?.getD undef = .string S := (Array.getD_eq_getD_getElem? ..).symm.trans h0
          have m1 : (obV wo o.data).p w1 (a.tmps.getD 24 undef) := h1
          have md : Own wo w1 (a.tmps.getD 24 undef) o.data := m1
          obtain ⟨d2, hd2⟩ : ∃ z, a.tmps.getD 24 undef = z := ⟨_, rfl⟩
          rw [hd2] at md
          have gd2 : a.tmps[24]?.getD undef = d2 := (Array.getD_eq_getD_getElem? ..).symm.trans hd2
          refine op_run rfl rfl (v := .agg #[.string S, d2]) (w' := w1) ?_ ⟨d2, rfl, md⟩ (Below.refl _ _)
          obtain ⟨ad, cd, rfl, _⟩ := md.row
          simp [execOp, Act.eval, h0, g0, hd2, gd2, go_sem]
        · intro hne lo hi ph hran hp1 hp2 a w1 hJ hsz hs      -- 8: slot 26
          obtain ⟨rfl, rfl⟩ : 0 = lo ∧ 0 = hi := Prod.mk.inj (Option.some.inj hran)
          obtain rfl : ph = 0 := by omega
          obtain ⟨h0, h1, _⟩ := hs
          have h0 : a.tmps.getD 18 undef = .slice (some ⟨G, 0, none⟩) ns ns := h0
          have h1 : a.tmps.getD 19 undef = .int .i64 (j : Nat) := h1
          refine op_run rfl rfl (v := .pointer (some ⟨G, j * 2, none⟩)) (w' := w1) ?_ rfl (Below.refl _ _)
          simp [execOp, Act.eval, h0, h1, hjn2, hjj, go_sem]
        · intro hne lo hi ph hran hp1 hp2 a w1 hJ hsz hs      -- 9: slot None
          exact absurd (by decide) hne
      · show ∀ ph, ph < 1 → _
        iterate 1 (refine fls ?_ ?_)
        · exact fl0
        · intro i hi a w1 hJ hsz hs      -- heavy 0: op 9 slot None
          obtain rfl : 9 = i := Option.some.inj hi
          obtain ⟨h0, h1, _⟩ := hs
          have h0 : a.tmps.getD 26 undef = .pointer (some ⟨G, j * 2, none⟩) := h0
          have g0 : a.tmps[26]?.getD undef = .pointer (some ⟨G, j * 2, none⟩) := (Array.getD_eq_getD_getElem? ..).symm.trans h0
          have m1 : (ogV wo S o.data).p w1 (a.tmps.getD 25 undef) := h1
          obtain ⟨d2, e25, md⟩ := (show ∃ d, a.tmps.getD 25 undef = .agg #[.string S, d] ∧ Own wo w1 d o.data from m1)
          have hO := HOO.out.later odu_rel (show Below wo.heap.size wo w1 from hJ)
          have hd1 : d2.oneCell' = true := by
            obtain ⟨ad, cd, rfl, _⟩ := md.row
            rfl
          obtain ⟨q1, q2, q3, q4⟩ := OU.put hO HLN.out HJN.out (x := .string S) (y := d2) (o := o) rfl hd1 ⟨S, d2, rfl, HS.out, hS2, BU.own_at md fun k hk => ⟨by have := (md.ltB hk).1; have := HGW.out.2; unfold newB; omega, fun e => by have := (md.ltB hk).1; have := HGW.out.1; simp only [Value.ownBlock, Option.some.injEq] at e; omega⟩⟩
          rw [HLS.out] at q1
          refine hv_skip rfl rfl (exec_store2 w1 G (j * 2) 38 (.string S) d2 q3 q4 (fun i => hO.frozenAt HLN.out i) (by kernel_rfl) rfl hd1 _ _ (.tmp 26) (.tmp 25) rfl h0 e25) trivial q1 (Calm5.all (n := 0) ⟨.inr fun _ h => h, .inr fun _ h => h, .inr fun _ h => h, .inr fun _ h => h, .inr fun _ h => h, .inr fun _ h => h, .inr fun _ _ => trivial, .inr fun _ _ => trivial, .inr fun _ h => h, .inl rfl, trivial⟩)
      intro f w1 hJ hv
      clear hv
      try simp only [Exit.then]
      simp only [putAll, List.foldl_cons, List.foldl_nil, Option.getD_some, Act.put, List.setIfInBounds_toArray, List.set_cons_succ, List.set_cons_zero]
      have HN5 : Hid (OU (newB wb) wb w1 (.slice (some ⟨G, 0, none⟩) ns ns) (s.snaps.take (j + 1) ++ List.replicate (ns - (j + 1)) noOd)) := Lib.hid hJ
      clear hJ
      -- END G5
      go_wp2_with fail
      go_roundw
      case rel => exact ⟨j + 1, by go_num, by omega, HN5⟩
      case measure => simp [intOf]; omega
    · have hjN : j = ns := by omega
      have HOF : Hid (OU (newB wb) wb wr (.slice (some ⟨G, 0, none⟩) ns ns) s.snaps) := Lib.hid (by
        have := HOU.out
        rw [hjN, List.take_of_length_le (Nat.le_of_eq HNS.out), Nat.sub_self, List.replicate_zero, List.append_nil] at this
        exact this)
      have HKD := Lib.hid (clone_any a1 nd c1 s.data wr (HRD.out.later HBR.out) HND.out hb1)
      clear hjN HOU
      obtain ⟨x0, x1⟩ := (HX2.out.later HBR.out).c2
      go_wp2_with fail
      refine HKD.out.mono ?_
      rintro e w8 ⟨v8, rfl, o8⟩
      have HX8 := Lib.hid ((HX3.out.later HBR.out).later o8.below)
      have HST : Hid (OwS w w8 v8 (.slice (some ⟨G, 0, none⟩) ns ns) s) := Lib.hid (by
        have q : OwS wb wr (.slice none 0 0) (.slice (some ⟨G, 0, none⟩) ns ns) ⟨[], s.snaps⟩ := ⟨Own.nil' HBR.out, HOF.out.weakJ odu_rel fun b _ hj => ⟨hj, by simp [Value.ownBlock]⟩⟩
        exact (q.newData o8).back HB3.out)
      obtain ⟨a8, c8, rfl, _⟩ := o8.row_n HND.out
      clear o8 x0 x1
      go_wp2_with (refine wpList_rec rfl rfl (X + 1) zeroSt #[.slice a8 nd c8, .slice (some ⟨G, 0, none⟩) ns ns] rfl rfl HX8.out rfl (by kernel_rfl) (by simp [Value.oneCell']) ?_; intro w9 r1 r2 r3 r4)
      refine bodyPost_ret (results_c rfl rfl r1 Try.underlying32 rfl (by kernel_rfl)) rfl ?_
      exact ⟨_, _, rfl, HST.out.over HX8.out r4 (by have := HXS.out; omega)⟩
end Go.Proofs.Ytbpddcmehjgleaa
namespace Go.Proofs.Ytbpddcmehjgleaa
open Go.RowKit Go.Proofs
set_option linter.unusedVariables false
set_option linter.unusedSimpArgs false
set_option linter.unnecessarySimpa false

theorem mdexec_append {P : Program} {w w' : World} {a : Act} {o : Oper} {s x : Operand} {t tn : TypeId} {vs vx v' : Value} (ho : o.op = .call { callee := .builtin .append, args := #[s, x], argTypes := #[t, tn] }) (hs : a.eval s = vs) (hx : a.eval x = vx)
    (hr : (Builtin.append_ #[t, tn] o.type #[vs, vx]).run P w = .ok v' w') : (execOp a.eval o).run P w = .ok (.value v') w' := by
  unfold execOp
  simp only [ho, resolve, invoke, builtin, Sem.run_bind, Sem.run_pure, Result.andThen_ok, List.map_toArray, List.map_cons, List.map_nil, hs, hx, hr]
theorem run_sl3 {α : Type} {R : RT α} (hR : R.Ok) {g n cap lo hi mx : Nat} (h1 : lo ≤ hi) (h2 : hi ≤ mx) (h3 : mx ≤ cap) : ∃ V, ∀ W, (Instr.slice R.S (.slice (some ⟨g, 0, none⟩) n cap) (some (.int .i64 lo)) (some (.int .i64 hi)) (some (.int .i64 mx))).run Try.prog W = .ok V W := by
  obtain ⟨i0, z, hi0, _, hi2, _⟩ := hR.info
  by_cases c : mx = lo
  · subst c
    exact ⟨_, fun W => by simp [Instr.slice, Instr.sliceBounds, Instr.sliceBound, asIntOf, run_underlying hR.und, Result.andThen, h1, h2, h3, sizeOf, typeInfo, hi0, hi2]; rfl⟩
  · exact ⟨_, fun W => by simp [Instr.slice, Instr.sliceBounds, Instr.sliceBound, asIntOf, run_underlying hR.und, Result.andThen, h1, h2, h3, sizeOf, typeInfo, hi0, hi2]; rfl⟩
theorem run_slG2 {α : Type} {R : RT α} (hR : R.Ok) {W : World} {g n cap lo hi : Nat} (h1 : lo ≤ hi) (h2 : hi ≤ cap) (h3 : lo < cap) :
    (Instr.slice R.S (.slice (some ⟨g, 0, none⟩) n cap) (some (.int .i64 lo)) (some (.int .i64 hi)) none).run Try.prog W = .ok (.slice (some ⟨g, lo * R.sz, none⟩) (hi - lo) (cap - lo)) W := by
  obtain ⟨i0, z, hi0, _, hi2, _⟩ := hR.info
  simp [Instr.slice, Instr.sliceBounds, Instr.sliceBound, asIntOf, run_underlying hR.und, Result.andThen, h1, h2, sizeOf, typeInfo, hi0, hi2, show ¬ cap = lo by omega, Addr.add_lit]
/-- What lies behind one's own row may be written. -/
theorem GOwn.beyond {α : Type} {R : RT α} {W0 w : World} {g n cap : Nat} {ts : List α} (h : GOwn R W0 w (.slice (some ⟨g, 0, none⟩) n cap) ts) (hn : ts.length = n) {off : Nat} (ho : n * R.sz ≤ off) (u : Value) : GOwn R W0 (w.setCell ⟨g, off, none⟩ u) (.slice (some ⟨g, 0, none⟩) n cap) ts := by
  subst hn
  have hge := (World.ownsRow.lt h.1 g rfl).1
  refine ⟨⟨h.1.1, ?_⟩, h.2.1.setCell (by simpa using hge) u, h.2.2⟩
  rcases h.1.2 with ⟨hv, _⟩ | ⟨g', cap', cur, hv, hb, hg, hnc, hcm, hcs, ht⟩
  · cases hv
  · obtain ⟨e1, e2⟩ : g = g' ∧ cap = cap' := by simp only [Value.slice.injEq, Option.some.injEq, Addr.mk.injEq, and_true, true_and] at hv; exact hv
    subst e1; subst e2
    refine .inr ⟨g, cap, cur.setIfInBounds off u, rfl, hb, by simp [World.setCell, Array.getElem?_modify, hg], hnc, hcm, by simp [hcs], ?_⟩
    rw [Array.toList_setIfInBounds, List.take_set_of_le ho]
    exact ht
theorem OU.beyond {J : Nat → Prop} {W0 w : World} {g n cap : Nat} {l : List Od} (h : OU J W0 w (.slice (some ⟨g, 0, none⟩) n cap) l) (hn : l.length = n) {off : Nat} (ho : n * 2 ≤ off) (u : Value) : OU J W0 (w.setCell ⟨g, off, none⟩ u) (.slice (some ⟨g, 0, none⟩) n cap) l := by
  obtain ⟨css, g1, g2⟩ := h
  exact ⟨css, g1.beyond (by rw [g2.1, hn]) ho u, g2.mono fun c t hc => odu_rel.keep hc (fun b hb hj => (grown_set w g off u).block b hb (fun e => by cases e; exact hj.2 rfl)) (grown_set w g off u).size⟩
/-- 'append(s[:i], s[i+1:]...)', in place. -/
theorem OU.cut {J : Nat → Prop} {W0 w : World} {g n cap i : Nat} {l : List Od} (h : OU J W0 w (.slice (some ⟨g, 0, none⟩) n cap) l) (hn : l.length = n) (hi : i < n) (hm : n ≤ 1000000) (ty : TypeId) :
    ∃ w', (Builtin.append_ #[30, 30] ty #[.slice (some ⟨g, 0, none⟩) i cap, .slice (cutA 2 (some ⟨g, 0, none⟩) (i + 1) cap) (n - (i + 1)) (cap - (i + 1))]).run Try.prog w = .ok (.slice (some ⟨g, 0, none⟩) (n - 1) cap) w' ∧ OU J W0 w' (.slice (some ⟨g, 0, none⟩) (n - 1) cap) (l.eraseIdx i) ∧ w.grownBy w' (some g) := by
  obtain ⟨css, g1, g2⟩ := h
  have hcl : css.length = n := by rw [g2.1, hn]
  obtain ⟨i0, z, hi0, hz0, hz1, hz2, hz3⟩ := odT_ok.info
  obtain ⟨ga, gc, hv, hgr⟩ := g1.row_n odT_ok hcl
  simp only [Value.slice.injEq] at hv
  obtain ⟨rfl, -, rfl⟩ := hv
  have hcap : n ≤ cap := by rw [← hcl]; exact hgr.1
  have ht := g1.take odT_ok hcl (k := i) (by omega)
  have hd : GRow rOd w (cutA 2 (some ⟨g, 0, none⟩) (i + 1) cap) (cap - (i + 1)) (css.drop (i + 1)) := hgr.drop (lo := i + 1) (by omega)
  obtain ⟨y, hy⟩ : ∃ y, cutA 2 (some ⟨g, 0, none⟩) (i + 1) cap = some y := by
    unfold cutA
    split
    · exact ⟨_, rfl⟩
    · exact ⟨_, rfl⟩
  rw [hy] at hd
  have htl : (css.take i).length = i := by rw [List.length_take]; omega
  have hdl : (css.drop (i + 1)).length = n - (i + 1) := by rw [List.length_drop, hcl]
  obtain ⟨w', h1, h2, h3⟩ := run_append_fits (P := Try.prog) (w := w) W0.heap.size 30 ty 38 i0 2 odT_ok.und hi0 hz1 g i cap ((css.take i).flatMap rOd.V) (by have := ht.1; rw [htl] at this; exact this) y (n - (i + 1)) (cap - (i + 1)) ((css.drop (i + 1)).flatMap rOd.V) (by rw [flat_lenG odT_ok, hdl]) (fun j u hu => hd.flat odT_ok hu) (fun u hu => flat_oneG odT_ok u hu) (by omega)
  rw [show i + (n - (i + 1)) = n - 1 by omega] at h1 h2
  rw [← List.flatMap_append] at h2
  refine ⟨w', by rw [hy]; exact h1, ⟨css.take i ++ css.drop (i + 1), ⟨by rw [List.length_append, htl, hdl, show i + (n - (i + 1)) = n - 1 by omega]; exact h2, g1.2.1.grown h3 g1.2.1.size (fun k e => by cases e; exact (World.ownsRow.lt g1.1 g rfl).1), fun t _ => trivial⟩, ?_⟩, h3⟩
  rw [List.eraseIdx_eq_take_drop_succ]
  have k : Both (fun (c : Raw 2) t => OdU (lessJ J (.slice (some ⟨g, 0, none⟩) n cap)) w' c.1 t) css l := g2.mono fun c t hc => odu_rel.keep hc (fun b hb hj => h3.block b hb (fun e => by cases e; exact hj.2 rfl)) h3.size
  exact (k.take i).append (k.drop (i + 1))
def jD (g n cap : Nat) (J : Nat → Prop) (W0 wo : World) (l : List Od) : Nat → World → Prop
  | 0, w => Below wo.heap.size wo w
  | _ + 1, w => OU J W0 w (.slice (some ⟨g, 0, none⟩) (n - 1) cap) l ∧ wo.grownBy w (some g)
theorem grown_below {wo w w' : World} {g : Option Nat} (h : wo.grownBy w g) (hb : Below w.heap.size w w') : wo.grownBy w' g :=
  ⟨hb.os.trans h.os, hb.tape.trans h.tape, hb.output.trans h.output, Nat.le_trans h.size hb.size, fun k hk hne => (hb.block k (by have := h.size; omega)).trans (h.block k hk hne)⟩
theorem below_grown {wo w w' : World} {g : Option Nat} (hb : Below wo.heap.size wo w) (h : w.grownBy w' g) : wo.grownBy w' g :=
  ⟨h.os.trans hb.os, h.tape.trans hb.tape, h.output.trans hb.output, Nat.le_trans hb.size h.size, fun k hk hne => (h.block k (by have := hb.size; omega) hne).trans (hb.block k hk)⟩
theorem grown_trans {a b c : World} {g : Option Nat} (h : a.grownBy b g) (k : b.grownBy c g) : a.grownBy c g :=
  ⟨k.os.trans h.os, k.tape.trans h.tape, k.output.trans h.output, Nat.le_trans h.size k.size, fun x hx hne => (k.block x (by have := h.size; omega) hne).trans (h.block x hx hne)⟩
theorem jD_st (g n cap : Nat) (J : Nat → Prop) (W0 wo : World) (l : List Od) : ∀ ph w1 w2, jD g n cap J W0 wo l ph w1 → Below w1.heap.size w1 w2 → jD g n cap J W0 wo l ph w2
  | 0, w1, w2, h, hb => Below.trans h (hb.mono (Below.size h))
  | _ + 1, w1, w2, h, hb => ⟨NOwn.later odu_rel h.1 hb, grown_below h.2 hb⟩
def DeleteIs (J : Nat → Prop) (W0 w : World) (g n cap : Nat) (l : List Od) (e : Ending) (w' : World) : Prop := e = .returned (.slice (some ⟨g, 0, none⟩) (n - 1) cap) ∧ OU J W0 w' (.slice (some ⟨g, 0, none⟩) (n - 1) cap) l ∧ w.grownBy w' (some g)
set_option maxRecDepth 20000 in
set_option maxHeartbeats 6400000 in
theorem pdelete_any (g n cap i : Nat) (l : List Od) (J : Nat → Prop) (W0 w : World) (h : OU J W0 w (.slice (some ⟨g, 0, none⟩) n cap) l) (hn : l.length = n) (hi : i < n) (hm : n ≤ 1000) :
    Calls Try.prog 56 #[.slice (some ⟨g, 0, none⟩) n cap, .int .i64 ((i : Nat) : Int), .int .i64 (((i : Nat) : Int) + 1)] w fun e w' => DeleteIs J W0 w g n cap (l.eraseIdx i) e w' := by
  have hcap : n ≤ cap ∧ cap ≤ 9223372036854775807 := by
    obtain ⟨css, g1, g2⟩ := h
    obtain ⟨ga, gc, hv, hgr⟩ := g1.row_n odT_ok (by rw [g2.1, hn])
    simp only [Value.slice.injEq] at hv
    obtain ⟨rfl, -, rfl⟩ := hv
    exact ⟨by rw [← hn, ← g2.1]; exact hgr.1, hgr.2.1⟩
  obtain ⟨hc1, hc2⟩ := hcap
  obtain ⟨V3, h3⟩ := run_sl3 odT_ok (g := g) (n := n) (cap := cap) (lo := i) (hi := i + 1) (mx := n) (by omega) (by omega) (by omega)
  have h3b := h3
  simp only [show ((i + 1 : Nat) : Int) = ((i : Nat) : Int) + 1 by omega] at h3b
  have hne : (((i : Nat) : Int) == ((i : Nat) : Int) + 1) = false := by rw [beq_eq_false_iff_ne]; omega
  have HLO : Hid (l.length = n) := Lib.hid hn
  have HEL : Hid ((l.eraseIdx i).length = n - 1) := Lib.hid (by rw [List.length_eraseIdx]; simp [hn, hi])
  have HH := Lib.hid h
  have HI := Lib.hid hi
  clear h hn
  have hnn : ((n - 1 : Nat) : Int) ≥ 0 := by omega
  go_enter Try.func56, Try.ntmps56
  go_upto_region 5 with fail
  clear h3 h3b hne
  -- REG D5
  refine wp_region_ptab (L := fun ph => match ph with | 0 => [cV (.slice (some ⟨g, 0, none⟩) n cap), cV (.int .i64 ((i : Nat) : Int)), cV (.slice (some ⟨g, 0, none⟩) i cap), cV (.slice (some ⟨g, 0, none⟩) n cap), cV (.int .i64 (((i : Nat) : Int) + 1)), cV (.slice (cutA 2 (some ⟨g, 0, none⟩) (i + 1) cap) (n - (i + 1)) (cap - (i + 1))), nV, nV] | _ => [cV (.slice (some ⟨g, 0, none⟩) n cap), cV (.int .i64 ((i : Nat) : Int)), cV (.slice (some ⟨g, 0, none⟩) i cap), cV (.slice (some ⟨g, 0, none⟩) n cap), cV (.int .i64 (((i : Nat) : Int) + 1)), cV (.slice (cutA 2 (some ⟨g, 0, none⟩) (i + 1) cap) (n - (i + 1)) (cap - (i + 1))), cV (.slice (some ⟨g, 0, none⟩) (n - 1) cap), cV (.slice (some ⟨g, 0, none⟩) (n - 1) cap)]) (jD g n cap J W0 w (l.eraseIdx i)) [6] [(0, 0), (0, 0), (0, 0), (0, 0), (0, 0), (0, 0), (0, 1), (1, 1)] [[(0, none)], [(1, none)], [(20, some 0), (21, some 1)], [(0, none)], [(2, none)], [(23, some 3), (24, some 4)], [(22, some 2), (25, some 5)], [(26, some 6)]] 8 1 33 (by kernel_rfl) rfl rfl rfl (by kernel_rfl) (by kernel_rfl) (by decide) (by kernel_rfl) ?_ ?_ ?_ ?_ ?_
  · exact jD_st g n cap J W0 w (l.eraseIdx i)
  · exact Below.refl _ _
  · show ∀ i, i < 8 → _
    iterate 8 (refine fls ?_ ?_)
    · exact fl0
    · intro hne lo hi ph hran hp1 hp2 a w1 hJ hsz hs      -- 0: slot 20
      obtain ⟨rfl, rfl⟩ : 0 = lo ∧ 0 = hi := Prod.mk.inj (Option.some.inj hran)
      obtain rfl : ph = 0 := by omega
      obtain ⟨h0, _⟩ := hs
      have h0 : a.tmps.getD 0 undef = .slice (some ⟨g, 0, none⟩) n cap := h0
      refine op_run rfl rfl (v := .slice (some ⟨g, 0, none⟩) n cap) (w' := w1) ?_ rfl (Below.refl _ _)
      simp [execOp, Act.eval, h0, go_sem]
    · intro hne lo hi ph hran hp1 hp2 a w1 hJ hsz hs      -- 1: slot 21
      obtain ⟨rfl, rfl⟩ : 0 = lo ∧ 0 = hi := Prod.mk.inj (Option.some.inj hran)
      obtain rfl : ph = 0 := by omega
      obtain ⟨h0, _⟩ := hs
      have h0 : a.tmps.getD 1 undef = .int .i64 ((i : Nat) : Int) := h0
      refine op_run rfl rfl (v := .int .i64 ((i : Nat) : Int)) (w' := w1) ?_ rfl (Below.refl _ _)
      simp [execOp, Act.eval, h0, go_sem]
    · intro hne lo hi ph hran hp1 hp2 a w1 hJ hsz hs      -- 2: slot 22
      obtain ⟨rfl, rfl⟩ : 0 = lo ∧ 0 = hi := Prod.mk.inj (Option.some.inj hran)
      obtain rfl : ph = 0 := by omega
      obtain ⟨h0, h1, _⟩ := hs
      have h0 : a.tmps.getD 20 undef = .slice (some ⟨g, 0, none⟩) n cap := h0
      have h1 : a.tmps.getD 21 undef = .int .i64 ((i : Nat) : Int) := h1
      have hs22 := fun W => run_slG odT_ok (W := W) (a := some ⟨g, 0, none⟩) (n := n) (cap := cap) (hi := i) (S := 30) rfl (fun e => by cases e) hc1 (Nat.le_of_lt HI.out)
      refine op_run rfl rfl (v := .slice (some ⟨g, 0, none⟩) i cap) (w' := w1) ?_ rfl (Below.refl _ _)
      simp [execOp, Act.eval, h0, h1, hs22, go_sem]
    · intro hne lo hi ph hran hp1 hp2 a w1 hJ hsz hs      -- 3: slot 23
      obtain ⟨rfl, rfl⟩ : 0 = lo ∧ 0 = hi := Prod.mk.inj (Option.some.inj hran)
      obtain rfl : ph = 0 := by omega
      obtain ⟨h0, _⟩ := hs
      have h0 : a.tmps.getD 0 undef = .slice (some ⟨g, 0, none⟩) n cap := h0
      refine op_run rfl rfl (v := .slice (some ⟨g, 0, none⟩) n cap) (w' := w1) ?_ rfl (Below.refl _ _)
      simp [execOp, Act.eval, h0, go_sem]
    · intro hne lo hi ph hran hp1 hp2 a w1 hJ hsz hs      -- 4: slot 24
      obtain ⟨rfl, rfl⟩ : 0 = lo ∧ 0 = hi := Prod.mk.inj (Option.some.inj hran)
      obtain rfl : ph = 0 := by omega
      obtain ⟨h0, _⟩ := hs
      have h0 : a.tmps.getD 2 undef = .int .i64 (((i : Nat) : Int) + 1) := h0
      refine op_run rfl rfl (v := .int .i64 (((i : Nat) : Int) + 1)) (w' := w1) ?_ rfl (Below.refl _ _)
      simp [execOp, Act.eval, h0, go_sem]
    · intro hne lo hi ph hran hp1 hp2 a w1 hJ hsz hs      -- 5: slot 25
      obtain ⟨rfl, rfl⟩ : 0 = lo ∧ 0 = hi := Prod.mk.inj (Option.some.inj hran)
      obtain rfl : ph = 0 := by omega
      obtain ⟨h0, h1, _⟩ := hs
      have h0 : a.tmps.getD 23 undef = .slice (some ⟨g, 0, none⟩) n cap := h0
      have h1 : a.tmps.getD 24 undef = .int .i64 (((i : Nat) : Int) + 1) := h1
      have hs25 := fun W => run_slG_end odT_ok (W := W) (a := some ⟨g, 0, none⟩) (n := n) (cap := cap) (lo := i + 1) (S := 30) rfl hc1 HI.out
      simp only [show ((i + 1 : Nat) : Int) = ((i : Nat) : Int) + 1 by omega] at hs25
      refine op_run rfl rfl (v := .slice (cutA 2 (some ⟨g, 0, none⟩) (i + 1) cap) (n - (i + 1)) (cap - (i + 1))) (w' := w1) ?_ rfl (Below.refl _ _)
      simp [execOp, Act.eval, h0, h1, hs25, go_sem]
    · intro hne lo hi ph hran hp1 hp2 a w1 hJ hsz hs      -- 6: slot 26
      exact absurd (by decide) hne
    · intro hne lo hi ph hran hp1 hp2 a w1 hJ hsz hs      -- 7: slot 0
      obtain ⟨rfl, rfl⟩ : 1 = lo ∧ 1 = hi := Prod.mk.inj (Option.some.inj hran)
      obtain rfl : ph = 1 := by omega
      obtain ⟨h0, _⟩ := hs
      have h0 : a.tmps.getD 26 undef = .slice (some ⟨g, 0, none⟩) (n - 1) cap := h0
      refine op_run rfl rfl (v := .slice (some ⟨g, 0, none⟩) (n - 1) cap) (w' := w1) ?_ rfl (Below.refl _ _)
      simp [execOp, Act.eval, h0, go_sem]
  · show ∀ ph, ph < 1 → _
    iterate 1 (refine fls ?_ ?_)
    · exact fl0
    · intro i hi a w1 hJ hsz hs      -- heavy 0: op 6 slot 26
      obtain rfl : 6 = i := Option.some.inj hi
      obtain ⟨h0, h1, _⟩ := hs
      have h0 : a.tmps.getD 22 undef = .slice (some ⟨g, 0, none⟩) i cap := h0
      have h1 : a.tmps.getD 25 undef = .slice (cutA 2 (some ⟨g, 0, none⟩) (i + 1) cap) (n - (i + 1)) (cap - (i + 1)) := h1
      obtain ⟨w', q1, q2, q3⟩ := OU.cut (HH.out.later odu_rel (show Below w.heap.size w w1 from hJ)) HLO.out HI.out (by omega) 30
      refine hv_run rfl rfl (v := .slice (some ⟨g, 0, none⟩) (n - 1) cap) (w' := w') ?_ rfl ⟨q2, below_grown (show Below w.heap.size w w1 from hJ) q3⟩ (Calm5.all (n := 0) ⟨.inr fun _ h => h, .inr fun _ h => h, .inr fun _ h => h, .inr fun _ h => h, .inr fun _ h => h, .inr fun _ h => h, .inl rfl, .inr fun _ h => h.elim, trivial⟩)
      exact mdexec_append rfl (by simp [Act.eval, h0]) (by simp [Act.eval, h1]) q1
  intro f w1 hJ hv
  have e0 : f 0 = .slice (some ⟨g, 0, none⟩) (n - 1) cap := hv 7 _ 0 rfl rfl
  clear hv
  try simp only [Exit.then]
  simp only [putAll, List.foldl_cons, List.foldl_nil, Option.getD_some, Act.put, List.setIfInBounds_toArray, List.set_cons_succ, List.set_cons_zero, e0]
  obtain ⟨hO5, hG5⟩ := (show jD g n cap J W0 w (l.eraseIdx i) 1 w1 from hJ)
  have HO5 := Lib.hid hO5
  have HG5 := Lib.hid hG5
  clear hJ e0 hO5 hG5
  obtain ⟨w5, rfl⟩ : ∃ z, z = w1 := ⟨_, rfl⟩
  -- END D5
  have hsl6 := fun W => run_slG2 odT_ok (W := W) (g := g) (n := n - 1) (cap := cap) (lo := n - 1) (hi := n) (by omega) hc1 (by omega)
  have e1 : n - (n - 1) = 1 := by omega
  rw [e1] at hsl6
  obtain ⟨css, g1, g2⟩ := HO5.out
  have hcells : ∀ j, j < 2 → ∃ u, w5.cell? ⟨g, (n - 1) * 2 + j, none⟩ = some u := by
    have hcl : css.length = n - 1 := by rw [g2.1, HEL.out]
    intro j hj
    rcases g1.1.2 with ⟨hv, _⟩ | ⟨g', cap', cur, hv, hb, hg, hnc, hcm, hcs, ht⟩
    · cases hv
    · simp only [Value.slice.injEq, Option.some.injEq, Addr.mk.injEq, and_true, true_and] at hv
      obtain ⟨rfl, -, rfl⟩ := hv
      have hcs2 : cur.size = cap * 2 := hcs
      exact ⟨cur[(n - 1) * 2 + j]'(by omega), by simp [World.cell?, hg]⟩
  have hfz : ∀ j, w5.frozen? ⟨g, j, none⟩ = false := fun j => HO5.out.frozenAt HEL.out j
  have hcl6 : ∀ ty, (Builtin.clear_ #[30] ty #[.slice (some ⟨g, (n - 1) * 2, none⟩) 1 (cap - (n - 1))]).run Try.prog w5 = .ok (.tuple #[]) ((w5.setCell ⟨g, (n - 1) * 2, none⟩ (.string ⟨#[]⟩)).setCell ⟨g, (n - 1) * 2 + 1, none⟩ (.slice none 0 0)) := fun ty => by
    have hz : ∀ W, (zeroValue 38).run Try.prog W = .ok (.agg #[.string ⟨#[]⟩, .slice none 0 0]) W := fun W => by kernel_rfl
    have hst := run_storeCells_cells (P := Try.prog) g ((n - 1) * 2) [.string ⟨#[]⟩, .slice none 0 0] 0 w5 (fun j hj => by obtain ⟨u, hu⟩ := hcells j hj; rw [Nat.add_zero, hu]; rfl) (fun j hj => hfz _) (two_one rfl rfl)
    have e2 : (Builtin.zeroCells (Value.agg #[.string ⟨#[]⟩, .slice none 0 0]).cells 1).toList = [.string ⟨#[]⟩, .slice none 0 0] := by
      rw [show (Value.agg #[.string ⟨#[]⟩, .slice none 0 0]).cells = #[.string ⟨#[]⟩, .slice none 0 0] from rfl]
      simp [Builtin.zeroCells, Array.range_succ]
    simp only [Nat.add_zero] at hst
    simp only [Builtin.clear_]
    simp [run_underlying Try.underlying30, hz, e2, hst]
    rfl
  have HO6 := Lib.hid ((OU.beyond HO5.out HEL.out (off := (n - 1) * 2) (Nat.le_refl _) (.string ⟨#[]⟩)).beyond HEL.out (off := (n - 1) * 2 + 1) (Nat.le_succ _) (.slice none 0 0))
  have HG6 := Lib.hid (grown_trans HG5.out (grown_trans (grown_set w5 g ((n - 1) * 2) (.string ⟨#[]⟩)) (grown_set (w5.setCell ⟨g, (n - 1) * 2, none⟩ (.string ⟨#[]⟩)) g ((n - 1) * 2 + 1) (.slice none 0 0))))
  clear hcells hfz g1 g2 e1
  go_wp2_with fail
  go_ret
  exact ⟨rfl, HO6.out, HG6.out⟩
end Go.Proofs.Ytbpddcmehjgleaa
