/- Ways: the laws' known. | Ways: what the laws want of them. -/
import Derived.Test.YtbpddcmehjgleaaGDe
namespace Go.Proofs.Ytbpddcmehjgleaa
open Go.RowKit Go.Proofs
set_option linter.unusedVariables false
set_option linter.unusedSimpArgs false
set_option linter.unnecessarySimpa false

theorem kd_1 : bytesD [0, 0] [0, 1] = [⟨1, 1, 0, [1], []⟩] := by decide
theorem kd_2 : bytesD [1] [0] = [⟨3, 0, 1, [], []⟩] := by decide
theorem kd_3 : bytesD [] [] = [] := by decide
theorem rows_two (w : World) (l u : List UInt8) (hl : l.length ≤ 100) (hu : u.length ≤ 100) :
    Row ((w.alloc (.cells (l.map B8).toArray 5)).alloc (.cells (u.map B8).toArray 5)) (some ⟨w.heap.size, 0, none⟩) l.length l ∧
    Row ((w.alloc (.cells (l.map B8).toArray 5)).alloc (.cells (u.map B8).toArray 5)) (some ⟨w.heap.size + 1, 0, none⟩) u.length u ∧
    Below w.heap.size w ((w.alloc (.cells (l.map B8).toArray 5)).alloc (.cells (u.map B8).toArray 5)) := by
  have h1 := row_new w l (by omega)
  have h2 := row_new (w.alloc (.cells (l.map B8).toArray 5)) u (by omega)
  rw [World.size_alloc] at h2
  exact ⟨h1.later ((Below.refl _ _).alloc (Nat.le_refl _) _), h2, ((Below.refl _ _).alloc (Nat.le_refl _) _).alloc (by simp) _⟩

theorem row_none (w : World) : Row w none 0 [] := ⟨Nat.le_refl _, by unfold maxLen; omega, fun _ => rfl, fun x hx => by cases hx⟩
set_option maxRecDepth 20000 in
set_option maxHeartbeats 6400000 in
theorem known15_any (w : World) : Calls Try.prog 10 #[] w fun e w' => e = .returned (.bool true) ∧ Below w.heap.size w w' := by
  have ue1 := Try.underlying46
  obtain ⟨HR1, HR2, HBa⟩ := rows_two w [0, 0] [0, 1] (by decide) (by decide)
  have HBA := Lib.hid HBa
  have HRA := Lib.hid HR1
  have HRB := Lib.hid HR2
  clear HR1 HR2 HBa
  go_enter Try.func10, Try.ntmps10
  go_wp2_with fail
  refine (pbytes15_any (some ⟨w.heap.size, 0, none⟩) (some ⟨w.heap.size + 1, 0, none⟩) 2 2 2 2 [0, 0] [0, 1] _ HRA.out HRB.out rfl rfl).mono ?_
  rw [kd_1]
  rintro e w1 ⟨v1, rfl, o1⟩
  obtain ⟨a1, c1, rfl⟩ := o1.val evT_ok (n := 1) rfl
  have HO1 := Lib.hid o1
  have HB1 := Lib.hid (HBA.out.trans (o1.below.mono HBA.out.size))
  clear o1 HRA HRB HBA
  obtain ⟨HR1, HR2, HBa⟩ := rows_two w1 [1] [0] (by decide) (by decide)
  have HBA := Lib.hid HBa
  have HRA := Lib.hid HR1
  have HRB := Lib.hid HR2
  clear HR1 HR2 HBa
  go_wp2_with fail
  refine (pbytes15_any (some ⟨w1.heap.size, 0, none⟩) (some ⟨w1.heap.size + 1, 0, none⟩) 1 1 1 1 [1] [0] _ HRA.out HRB.out rfl rfl).mono ?_
  rw [kd_2]
  rintro e w2 ⟨v2, rfl, o2⟩
  obtain ⟨a2, c2, rfl⟩ := o2.val evT_ok (n := 1) rfl
  have HB12 := Lib.hid (HBA.out.trans (o2.below.mono HBA.out.size))
  have HB2 := Lib.hid (HB1.out.trans (HB12.out.mono HB1.out.size))
  have HQ1 := Lib.hid ((HO1.out.later ev_rel HB12.out).row evT_ok ev_rel (fun b h => h)).q
  have HQ2 := Lib.hid (o2.row evT_ok ev_rel (fun b h => h)).q
  clear o2 HO1 HRA HRB HBA HB12
  obtain ⟨b1, f1, S1, d1, e1, ha1, p0, p1, p2, p3, p4, hS1, hS2, R1⟩ := HQ1.out.e5 (i := 0) rfl
  subst ha1
  simp only [Nat.zero_mul, Nat.add_zero] at p0 p1 p2 p3 p4
  go_wp2_with fail
  have hb3 : Below w2.heap.size w2 (w2.alloc (.cells #[.int .u8 1] 5)) := (Below.refl _ _).alloc (Nat.le_refl _) _
  refine (rsame_any 1 1 0 1 1 0 d1 (some ⟨w2.heap.size, 0, none⟩) 1 1 e1 1 S1 ⟨#[]⟩ [1] [1] _ (R1.later hb3) (row_new w2 [1] (by decide)) rfl rfl true ⟨fun _ => ⟨rfl, rfl, rfl, (str_iff hS1 rfl).2 rfl, rfl⟩, fun _ => rfl⟩).mono ?_
  rintro e w3 ⟨rfl, b3⟩
  have HB3 := Lib.hid (hb3.trans (b3.mono hb3.size))
  have HBW3 := Lib.hid (HB2.out.trans (HB3.out.mono HB2.out.size))
  clear hb3 b3 p0 p1 p2 p3 p4 R1 hS1 hS2
  obtain ⟨b2, f2, S2, d2, e2, ha2, p0, p1, p2, p3, p4, hS1, hS2, R2⟩ := (HQ2.out.later ev_rel HB3.out).e5 (i := 0) rfl
  subst ha2
  simp only [Nat.zero_mul, Nat.add_zero] at p0 p1 p2 p3 p4
  go_wp2_with fail
  refine (rsame_any 3 0 1 3 0 1 d2 none 0 0 e2 0 S2 ⟨#[]⟩ [] [] _ R2 (row_none _) rfl rfl true ⟨fun _ => ⟨rfl, rfl, rfl, (str_iff hS1 rfl).2 rfl, rfl⟩, fun _ => rfl⟩).mono ?_
  rintro e w4 ⟨rfl, b4⟩
  have HBW4 := Lib.hid (HBW3.out.trans (b4.mono HBW3.out.size))
  clear b4 p0 p1 p2 p3 p4 R2 hS1 hS2
  go_wp2_with fail
  refine (pbytes15_any none none 0 0 0 0 [] [] _ (row_none _) (row_none _) rfl rfl).mono ?_
  rw [kd_3]
  rintro e w5 ⟨v5, rfl, o5⟩
  obtain ⟨a5, c5, rfl⟩ := o5.val evT_ok (n := 0) rfl
  have HBW5 := Lib.hid (HBW4.out.trans (o5.below.mono HBW4.out.size))
  clear o5
  go_wp2_with fail
  go_ret
  exact ⟨rfl, HBW5.out⟩
end Go.Proofs.Ytbpddcmehjgleaa
namespace Go.Proofs.Ytbpddcmehjgleaa
open Go.RowKit Go.Proofs
set_option linter.unusedVariables false
set_option linter.unusedSimpArgs false
set_option linter.unnecessarySimpa false

theorem wayS_ok {s t : Sx} (hs : StOk s) (ht : StOk t) : wayS s t = wayD s t := by unfold wayS; rw [if_pos ⟨hs, ht⟩]
theorem wayS_lead {s t : Sx} (hs : StOk s) (ht : StOk t) : LeadM s (wayS s t) t := by rw [wayS_ok hs ht]; exact way_lead hs ht
theorem wayS_fold {s t : Sx} (hs : StOk s) (ht : StOk t) : foldM s (wayS s t) = t := (wayS_lead hs ht).fold
theorem wayS_self {s : Sx} (hs : StOk s) : wayS s s = [] := by rw [wayS_ok hs hs]; exact way_same s
theorem wayS_none {s t : Sx} (hs : StOk s) (ht : StOk t) : wayS s t = [] ↔ s = t := by rw [wayS_ok hs ht]; exact way_none hs ht
/-- A row of events, as it is read. -/
def weV (l : List Ev) (n : Nat) : SV := ⟨fun w x => ∃ a c, x = .slice a n c ∧ QE allJ w (.slice a n c) l, fun w w' x ⟨a, c, h1, h2⟩ hb => ⟨a, c, h1, h2.later ev_rel hb⟩⟩
theorem we_of {W0 w : World} {v : Value} {l : List Ev} {n : Nat} (h : OEv (newB W0) W0 w v l) (hn : l.length = n) : ∃ a c, v = .slice a n c ∧ QE allJ w (.slice a n c) l := by
  obtain ⟨a, c, rfl⟩ := h.val evT_ok hn
  exact ⟨a, c, rfl, ((h.row evT_ok ev_rel (fun b h => h)).q).weak ev_rel fun _ _ _ => trivial⟩
theorem calls_we {f : FuncId} {args : Array Value} {w : World} {l l' : List Ev} {n : Nat} (h : Calls Try.prog f args w fun e w' => ∃ v, e = .returned v ∧ OEv (newB w) w w' v l) (hl : l = l') (hn : l'.length = n) : Calls Try.prog f args w fun e w' => ∃ x, e = .returned x ∧ (weV l' n).p w' x ∧ Below w.heap.size w w' :=
  h.mono fun e w' ⟨v, h1, h2⟩ => by subst hl; exact ⟨v, h1, we_of h2 hn, h2.below⟩
theorem calls_fo {f : FuncId} {args : Array Value} {w : World} {s t : Sx} (h : Calls Try.prog f args w fun e w' => FoldIs (newB w) w s e w') (hs : s = t) : Calls Try.prog f args w fun e w' => ∃ x, e = .returned x ∧ (stV allJ t).p w' x ∧ Below w.heap.size w w' :=
  h.mono fun e w' ⟨d, v, h1, h2, h3⟩ => by subst hs; exact ⟨_, h1, ⟨d, v, rfl, h2.all⟩, h3⟩
end Go.Proofs.Ytbpddcmehjgleaa
