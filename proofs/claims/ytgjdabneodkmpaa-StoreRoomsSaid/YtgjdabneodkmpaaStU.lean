/- What is known of a store of one object: 'known'. -/
import Derived.Test.YtgjdabneodkmpaaStN
import Derived.Test.YtgjdabneodkmpaaStV
import Derived.Lib.SlBytesConst
namespace Go.Proofs.Ytgjdabneodkmpaa
open Go.RowKit
set_option linter.unusedVariables false

/-- A store with power of just one object. -/
structure One (S : St) (k : K4) (room : Int) (o : Ob) (n : Nat) : Prop where
  good : S.Good n
  off : S.off = false
  sks : S.sks = [k]
  seen : S.seen k = some o
  room : S.room = room
  ok : k.ok
  right : rightK k = true
theorem One.why {S : St} {k : K4} {room : Int} {o : Ob} {n : Nat} (h : One S k room o n) : whyNot S k = 0 := by
  unfold whyNot; rw [h.off, h.right]; rfl
theorem One.used {S : St} {k : K4} {room : Int} {o : Ob} {n : Nat} (h : One S k room o n) : S.used = o.bytes.length + o.named := by
  have := h.good.acc
  unfold St.acc at this
  rw [h.sks] at this
  simp only [List.map_cons, List.map_nil, List.sum_cons, List.sum_nil, h.seen, usedOf] at this
  omega
theorem One.made (room : Int) (k : K4) (hk : k.ok) (hr : rightK k = true) : One ((St.new room).did k ⟨0, 0, [], []⟩) k (heldI room 0 1048576) Ob.none 1 := by
  refine ⟨(St.Good.new room).did (by omega) hk (.inl rfl), by rw [(St.did_rest _ _ _).2.1]; rfl, rfl, ?_, by rw [(St.did_rest _ _ _).1]; rfl, hk, hr⟩
  rw [St.did_seen, upd_same]; rfl
theorem One.wr {S : St} {k : K4} {room : Int} {o : Ob} {n : Nat} (h : One S k room o n) (hn : n ≤ 1000) (off : Nat) (l : List UInt8) (hl : off + l.length ≤ 16384) (hr : (o.wr off l).bytes.length + o.named ≤ room ∨ (o.wr off l).bytes.length ≤ o.bytes.length) :
    S.wr k o off l = (0, S.did k ⟨1, off, [], l⟩) ∧ One (S.did k ⟨1, off, [], l⟩) k room (o.wr off l) (n + 1) := by
  have hc : canD ⟨1, off, [], l⟩ (S.seen k) := .inr (.inr (.inl ⟨rfl, by rw [h.seen]; rfl, by simp, by simp only; omega⟩))
  refine ⟨?_, h.good.did hn h.ok hc, by rw [(St.did_rest _ _ _).2.1]; exact h.off, ?_, ?_, by rw [(St.did_rest _ _ _).1]; exact h.room, h.ok, h.right⟩
  · unfold St.wr
    rw [if_neg (by omega), if_neg]
    have hu := h.used
    have hro := h.room
    have hlen : ((o.wr off l).bytes.length : Int) = o.bytes.length + growthI o off l.length := by
      unfold growthI Ob.wr
      by_cases e : l = []
      · subst e; simp [writeL]
      · have hp : 0 < l.length := List.length_pos_iff.2 e
        have e3 : ¬ ((l.length : Int) = 0) := by omega
        rw [if_neg e3]
        simp only [writeL_pos _ _ _ hp, padL, List.length_append, List.length_take, List.length_drop, List.length_replicate]
        omega
    unfold growthI at *
    split at hlen <;> rename_i e0 <;> first | rw [if_pos e0] | rw [if_neg e0]
    all_goals omega
  · have e : (S.did k ⟨1, off, [], l⟩).sks = if (S.seen k).isSome then S.sks else S.sks ++ [k] := by
      unfold St.did St.laid
      rw [(St.logged_seen S k _).1, (St.logged_seen S k _).2.1, h.seen]
      simp [doneD]
    rw [e, h.seen]
    exact h.sks
  · rw [St.did_seen, upd_same, h.seen]
    simp [doneD]
theorem One.dried {S : St} {k : K4} {room : Int} {o : Ob} {n : Nat} (h : One S k room o n) : One S.dried k room o (n + 1) := ⟨h.good.dried, h.off, h.sks, h.seen, h.room, h.ok, h.right⟩
theorem fall_one {S : St} {k : K4} {room : Int} {o : Ob} {n : Nat} (h : One S k room o n) (hn : n ≤ 1000) (hw : S.wks = [k]) {p : Past} (hp : S.wet k = some p) (keep : List Int) (t : Int) {o' : Ob} (ho : leftO p (keep.getD 0 0) t = some o') :
    S.lostN (S.fallL keep) = (p.deeds.length : Int) - leftN p (keep.getD 0 0) ∧ (S.fallen keep t).off = true ∧ (S.fallen keep t).wks = [] ∧ One { S.fallen keep t with off := false } k room o' (2 * n) := by
  have hf : S.fallL keep = [(k, keep.getD 0 0)] := by
    unfold St.fallL
    rw [hw]
    have : sortK [k] = [k] := by simp [sortK]
    rw [this]; rfl
  have hs : (S.fallen keep t).seen k = some o' := by
    unfold St.fallen
    rw [hf]
    show ((S.laid k (S.leftOf t (k, keep.getD 0 0)) (usedOf (S.seen k)))).seen k = _
    simp only [St.laid, upd_same, St.leftOf, hp, ho]
  have hk : (S.fallen keep t).sks = [k] := by
    unfold St.fallen
    rw [hf]
    show ((S.laid k (S.leftOf t (k, keep.getD 0 0)) (usedOf (S.seen k)))).sks = _
    simp only [St.laid, St.leftOf, hp, ho, h.seen]
    exact h.sks
  have hr : (S.fallen keep t).room = room := by
    unfold St.fallen
    rw [hf]
    exact h.room
  refine ⟨?_, rfl, rfl, ⟨(h.good.fallen hn keep t).setOff false, rfl, hk, hs, hr, h.ok, h.right⟩⟩
  rw [hf]
  unfold St.lostN St.wetN
  rw [hw]
  simp [St.lenOf, St.leftNo, hp]

theorem KEY_ok (a b c d : Int) (h : -1000 ≤ a ∧ a ≤ 1000 ∧ -1000 ≤ b ∧ b ≤ 1000 ∧ -1000 ≤ c ∧ c ≤ 1000 ∧ -1000 ≤ d ∧ d ≤ 1000) : (⟨a, b, c, d⟩ : K4).ok := by
  have : ∀ x : Int, -1000 ≤ x ∧ x ≤ 1000 → (Lit.int .i64 x).wf = true := fun x hx => by
    simp [Lit.wf, IntKind.min, IntKind.max, IntKind.signed, IntKind.bits]; omega
  exact ⟨this _ (by simp only; omega), this _ (by simp only; omega), this _ (by simp only; omega), this _ (by simp only; omega)⟩

/-- The store of 'known' in its states. -/
def kkK : K4 := ⟨4, 0, 0, 0⟩
def knS1 : St := (St.new 100).did kkK ⟨0, 0, [], []⟩
def knS2 : St := knS1.did kkK ⟨1, (0 : Nat), [], [97, 98]⟩
def knS4 : St := knS2.dried.did kkK ⟨1, (2 : Nat), [], [99]⟩
theorem kk_ok : kkK.ok := KEY_ok 4 0 0 0 (by omega)
theorem kn1 : One knS1 kkK 100 Ob.none 1 := One.made 100 kkK kk_ok rfl
theorem kn2 : knS1.wr kkK Ob.none (0 : Nat) [97, 98] = (0, knS2) ∧ One knS2 kkK 100 (Ob.none.wr 0 [97, 98]) 2 := kn1.wr (by omega) 0 [97, 98] (by decide) (.inl (by decide))
theorem kn3 : One knS2.dried kkK 100 (Ob.none.wr 0 [97, 98]) 3 := kn2.2.dried
theorem kn4 : knS2.dried.wr kkK (Ob.none.wr 0 [97, 98]) (2 : Nat) [99] = (0, knS4) ∧ One knS4 kkK 100 ((Ob.none.wr 0 [97, 98]).wr 2 [99]) 4 := kn3.wr (by omega) 2 [99] (by decide) (.inl (by decide))
theorem kn_wet : knS4.wet kkK = some ⟨some (Ob.none.wr 0 [97, 98]), [⟨1, (2 : Nat), [], [99]⟩]⟩ := by
  unfold knS4
  rw [St.did_wet, upd_same]
  have : knS2.dried.wet kkK = .none := rfl
  rw [this]
  show some (Past.add ⟨knS2.dried.seen kkK, []⟩ _) = _
  rw [kn3.seen]
  rfl
theorem kn5 : knS4.lostN (knS4.fallL []) = 1 ∧ (knS4.fallen [] 0).off = true ∧ (knS4.fallen [] 0).wks = [] ∧ One { knS4.fallen [] 0 with off := false } kkK 100 (Ob.none.wr 0 [97, 98]) 8 := by
  have h := fall_one kn4.2 (by omega) rfl kn_wet [] 0 (o' := Ob.none.wr 0 [97, 98]) (by rfl)
  have e : (knS4.lostN (knS4.fallL [])) = 1 := by rw [h.1]; decide
  exact ⟨e, h.2⟩

/-- From a world in which the store's roles say 'junk' of all old blocks: they stay. -/
theorem Jk.below {w0 w w' : World} {r r' : Nat → Role} (h : Jk w w' r r') (h0 : Below w0.heap.size w0 w) (hr : ∀ x, x < w0.heap.size → r x = .junk) : Below w0.heap.size w0 w' ∧ ∀ x, x < w0.heap.size → r' x = .junk := by
  obtain ⟨b1, b2, b3, b4, b5⟩ := h0
  refine ⟨⟨h.os.trans b1, h.tape.trans b2, h.output.trans b3, Nat.le_trans b4 h.size, fun k hk => ?_⟩, fun x hx => (h.role x (by omega) (.inl (hr x hx))).trans (hr x hx)⟩
  exact (h.block k (by omega) (.inl (hr k hk))).trans (b5 k hk)
/-- A store, all of whose blocks are new since w0. -/
structure NSto (w0 w : World) (b : Nat) (g : Gh) (S : St) : Prop where
  sto : Sto w b g S
  below : Below w0.heap.size w0 w
  junk : ∀ x, x < w0.heap.size → g.r x = .junk
theorem NSto.jk {w0 w w' : World} {b : Nat} {g g' : Gh} {S S' : St} (h : NSto w0 w b g S) (h' : Sto w' b g' S') (hj : Jk w w' g.r g'.r) : NSto w0 w' b g' S' :=
  ⟨h', (hj.below h.below h.junk).1, (hj.below h.below h.junk).2⟩
theorem NSto.fr {w0 w w' : World} {b : Nat} {g g' : Gh} {S S' : St} (h : NSto w0 w b g S) (h' : Sto w' b g' S') (hj : Fr w w' g.r g'.r ours) : NSto w0 w' b g' S' := h.jk h' (Jk.of_fr hj (by simp [ours]))
theorem NSto.later {w0 w w' : World} {b : Nat} {g : Gh} {S : St} (h : NSto w0 w b g S) (hb : Below w.heap.size w w') : NSto w0 w' b g S := h.jk (h.sto.later hb) (Jk.of_below hb _)

set_option maxRecDepth 20000 in
set_option maxHeartbeats 1000000 in
theorem known_any (w : World) : Calls Try.prog 8 #[] w fun e w' => e = .returned (.bool true) ∧ Below w.heap.size w w' := by
  have HN := Lib.hid (new_any w 100)
  have kc := fun (w : World) (C : Array Value) (n c : Nat) => Lib.run_convert_bytes_const (P := Try.prog) w 31 5 C n c Try.underlying31 Try.underlying5
  go_enter Try.func8, Try.ntmps8
  go_wp2_with fail
  refine HN.out.mono ?_
  rintro e w1 ⟨b, g1, rfl, s1, hb1, hlb1, hj1⟩
  clear HN
  have H1 : Hid (NSto w w1 b g1 (St.new 100)) := Lib.hid ⟨s1, hb1, hj1⟩
  have hbk : Below w1.heap.size w1 (w1.alloc (.cells #[.int .i64 4, .int .i64 0, .int .i64 0, .int .i64 0] 27)) := (Below.refl _ _).alloc (Nat.le_refl _) _
  have HK1 : Hid (KeyAt (w1.alloc (.cells #[.int .i64 4, .int .i64 0, .int .i64 0, .int .i64 0] 27)) w1.heap.size kkK) := Lib.hid (KeyAt.new w1 kkK)
  have H2 := Lib.hid (H1.out.later hbk)
  have HM := Lib.hid (make_any _ b g1 _ (H2.out.sto) kkK kk_ok rfl rfl (by decide) (St.Good.new 100).wf 0 ((St.Good.new 100).sm (by omega)) (by omega))
  have HJ1 : Hid (g1.r w1.heap.size = .junk) := Lib.hid (s1.dom _ (Nat.le_refl _))
  unfold kv kkK at HM
  clear s1 hb1 hj1 hbk hlb1
  go_wp2_with fail
  refine HM.out.mono ?_
  rintro e w2 ⟨rfl, g2, s2, f2⟩
  have HK2 := Lib.hid (HK1.out.jk (Jk.of_fr f2 (by simp [ours])) HJ1.out)
  have HJ2 : Hid (g2.r w1.heap.size = .junk) := Lib.hid (by rw [f2.role _ HK1.out.lt]; exact HJ1.out)
  have H3 : Hid (NSto w w2 b g2 knS1) := Lib.hid (H2.out.fr s2 f2)
  clear HM H1 H2 HK1 HJ1 s2 f2
  obtain ⟨kb, hkb⟩ : ∃ kb, w1.heap.size = kb := ⟨_, rfl⟩
  rw [hkb] at HK2 HJ2 ⊢
  clear hkb
  obtain ⟨k0, k1, k2, k3⟩ : w2.cell? ⟨kb, 0, .none⟩ = some (.int .i64 4) ∧ w2.cell? ⟨kb, 1, .none⟩ = some (.int .i64 0) ∧ w2.cell? ⟨kb, 2, .none⟩ = some (.int .i64 0) ∧ w2.cell? ⟨kb, 3, .none⟩ = some (.int .i64 0) := HK2.out.cells
  have hbr : Below w2.heap.size w2 (w2.alloc (.cells #[.int .u8 97, .int .u8 98] 5 (2, 3))) := (Below.refl _ _).alloc (Nat.le_refl _) _
  have hrow : Row (w2.alloc (.cells #[.int .u8 97, .int .u8 98] 5 (2, 3))) (some ⟨w2.heap.size, 0, .none⟩) 2 [97, 98] := row_mark w2 [97, 98] (2, 3) (by decide)
  have H4 := Lib.hid (H3.out.later hbr)
  have HW := Lib.hid (write_any _ b g2 _ H4.out.sto kkK kk_ok Ob.none kn1.seen kn1.why (0 : Nat) (by omega) _ 2 2 [97, 98] hrow rfl (by omega) kn1.good.wf 1 (kn1.good.sm (by omega)) (by omega) (by rw [kn1.used]; decide))
  rw [kn2.1] at HW
  have HK3 := Lib.hid (HK2.out.later hbr)
  unfold kv kkK at HW
  simp only [Int.ofNat_zero] at HW
  clear hbr hrow
  go_wp2_with fail
  refine HW.out.mono ?_
  rintro e w3 ⟨rfl, g3, s3, f3⟩
  have HK4 := Lib.hid (HK3.out.jk (Jk.of_fr f3 (by simp [ours])) HJ2.out)
  have HJ4 : Hid (g3.r kb = .junk) := Lib.hid (by rw [f3.role _ HK3.out.lt]; exact HJ2.out)
  have H5 := Lib.hid (H4.out.fr s3 f3)
  clear HW H3 H4 HK2 HK3 HJ2 s3 f3 k0 k1 k2 k3
  have HB := Lib.hid (barrier_any w3 b g3 _ H5.out.sto kn2.2.off (by have := kn2.2.good.deeds; omega))
  go_wp2_with fail
  refine HB.out.mono ?_
  rintro e w4 ⟨rfl, g4, s4, f4⟩
  have HK5 := Lib.hid (HK4.out.jk (Jk.of_fr f4 (by simp [ours])) HJ4.out)
  have HJ5 : Hid (g4.r kb = .junk) := Lib.hid (by rw [f4.role _ HK4.out.lt]; exact HJ4.out)
  have H6 := Lib.hid (H5.out.fr s4 f4)
  clear HB H5 HK4 HJ4 s4 f4
  obtain ⟨k0, k1, k2, k3⟩ : w4.cell? ⟨kb, 0, .none⟩ = some (.int .i64 4) ∧ w4.cell? ⟨kb, 1, .none⟩ = some (.int .i64 0) ∧ w4.cell? ⟨kb, 2, .none⟩ = some (.int .i64 0) ∧ w4.cell? ⟨kb, 3, .none⟩ = some (.int .i64 0) := HK5.out.cells
  have hbr : Below w4.heap.size w4 (w4.alloc (.cells #[.int .u8 99] 5 (1, 2))) := (Below.refl _ _).alloc (Nat.le_refl _) _
  have hrow : Row (w4.alloc (.cells #[.int .u8 99] 5 (1, 2))) (some ⟨w4.heap.size, 0, .none⟩) 1 [99] := row_mark w4 [99] (1, 2) (by decide)
  have H7 := Lib.hid (H6.out.later hbr)
  have HW := Lib.hid (write_any _ b g4 _ H7.out.sto kkK kk_ok _ kn3.seen kn3.why (2 : Nat) (by omega) _ 1 1 [99] hrow rfl (by omega) kn3.good.wf 3 (kn3.good.sm (by omega)) (by omega) (by rw [kn3.used]; decide))
  rw [kn4.1] at HW
  have HK6 := Lib.hid (HK5.out.later hbr)
  unfold kv kkK at HW
  simp only [show ((2 : Nat) : Int) = 2 from rfl] at HW
  clear hbr hrow
  go_wp2_with fail
  refine HW.out.mono ?_
  rintro e w5 ⟨rfl, g5, s5, f5⟩
  have HK7 := Lib.hid (HK6.out.jk (Jk.of_fr f5 (by simp [ours])) HJ5.out)
  have HJ7 : Hid (g5.r kb = .junk) := Lib.hid (by rw [f5.role _ HK6.out.lt]; exact HJ5.out)
  have H8 := Lib.hid (H7.out.fr s5 f5)
  clear HW H6 H7 HK5 HK6 HJ5 s5 f5 k0 k1 k2 k3
  have HFA := Lib.hid (fall_some w5 b g5 knS4 H8.out.sto kn4.2.off kn4.2.good.wf 4 (kn4.2.good.sm (by omega)) (by omega) (kn4.2.good.leg (by omega)) (by rw [show knS4.wks = [kkK] from rfl]; simp) .none 0 0 [] ⟨by simp, by simp [maxLen], fun _ => rfl, fun x hx => nomatch hx⟩ rfl (by omega) 0)
  rw [kn5.1] at HFA
  go_wp2_with fail
  refine HFA.out.mono ?_
  rintro e w6 ⟨rfl, g6, s6, f6⟩
  have HK8 := Lib.hid (HK7.out.jk f6 HJ7.out)
  have HJ8 : Hid (g6.r kb = .junk) := Lib.hid ((f6.role _ HK7.out.lt (.inl HJ7.out)).trans HJ7.out)
  have H9 := Lib.hid (H8.out.jk s6 f6)
  clear HFA H8 HK7 HJ7 s6 f6
  have HON := Lib.hid (on_any w6 b g6 _ H9.out.sto)
  rw [kn5.2.1, Bool.not_true] at HON
  go_wp2_with fail
  refine HON.out.mono ?_
  rintro e w7 ⟨rfl, rfl⟩
  have HPW := Lib.hid (power_any w6 b g6 _ H9.out.sto)
  rw [kn5.2.1] at HPW
  clear HON
  go_wp2_with fail
  refine HPW.out.mono ?_
  rintro e w7 ⟨rfl, g7, s7, f7⟩
  have HK9 := Lib.hid (HK8.out.jk (Jk.of_fr f7 (by simp [ours])) HJ8.out)
  have H10 := Lib.hid (H9.out.fr s7 f7)
  clear HPW H9 HK8 HJ8 s7 f7
  obtain ⟨k0, k1, k2, k3⟩ : w7.cell? ⟨kb, 0, .none⟩ = some (.int .i64 4) ∧ w7.cell? ⟨kb, 1, .none⟩ = some (.int .i64 0) ∧ w7.cell? ⟨kb, 2, .none⟩ = some (.int .i64 0) ∧ w7.cell? ⟨kb, 3, .none⟩ = some (.int .i64 0) := HK9.out.cells
  have HRD := Lib.hid (read_any w7 b g7 _ H10.out.sto kkK kk_ok _ kn5.2.2.2.seen kn5.2.2.2.why 0 9 (by omega) (by omega) (by decide))
  unfold kv kkK at HRD
  simp only [show ((0 : Nat) : Int) = 0 from rfl, show ((9 : Nat) : Int) = 9 from rfl] at HRD
  have e9 : ((Ob.none.wr 0 [97, 98]).bytes.drop 0).take 9 = [97, 98] := by decide
  rw [e9] at HRD
  go_wp2_with fail
  refine HRD.out.mono ?_
  rintro e w8 ⟨a8, c8, rfl, hr8, hb8⟩
  have HBE := Lib.hid (H10.out.later hb8).below
  have hcv := conv_row_n hr8 (n := 2) rfl
  clear HRD e9 hr8 hb8 k0 k1 k2 k3
  go_wp2_with fail
  go_ret
  exact ⟨rfl, HBE.out⟩
end Go.Proofs.Ytgjdabneodkmpaa
