/- Events: what is got: the document's own. -/
import Derived.Test.YtnllopfhfijjbaaEvH
import Derived.Deep.CutBlock
namespace Go.Proofs.Ytnllopfhfijjbaa
open Go.RowKit
set_option linter.unusedVariables false
set_option linter.unusedSimpArgs false

section
variable (ad : Option Addr) (n c : Nat) (l : List UInt8) (w : World)
/-- What stands behind the switch. -/
def CutR (w : World) (l : List UInt8) (n : Nat) (wx : World) (E : Ev) (a1 : Option Addr) (c1 dn : Nat) (S : ByteArray) (ok : Bool) : Prop :=
  RecAt wx w.heap.size #[.int .i64 0, .int .i64 0, .int .i64 0, .slice none 0 0, .string ⟨#[]⟩] 24 ∧ RecAt wx (w.heap.size + 1) #[.int .i64 0, .int .i64 0, .int .i64 0, .slice none 0 0, .string ⟨#[]⟩] 24 ∧
  RecAt wx (w.heap.size + 1 + 1) #[.int .i64 E.kind, .int .i64 E.off, .int .i64 E.len, .slice a1 dn c1, .string S] 24 ∧ Row wx a1 c1 E.data ∧ E.data.length = dn ∧ S.data.toList = E.name ∧ GuessOk l E ok ∧
  Below w.heap.size w wx ∧ dn ≤ n ∧ S.size ≤ n ∧ ∀ x, a1 = some x → w.heap.size + 1 + 1 < x.block
theorem rec_three (w : World) (A B C : Array Value) (t : TypeId) : RecAt (((w.alloc (.cells A t)).alloc (.cells B t)).alloc (.cells C t)) w.heap.size A t ∧ RecAt (((w.alloc (.cells A t)).alloc (.cells B t)).alloc (.cells C t)) (w.heap.size + 1) B t ∧
    RecAt (((w.alloc (.cells A t)).alloc (.cells B t)).alloc (.cells C t)) (w.heap.size + 1 + 1) C t ∧ Below w.heap.size w (((w.alloc (.cells A t)).alloc (.cells B t)).alloc (.cells C t)) := by
  have h1 : Below (w.alloc (.cells A t)).heap.size (w.alloc (.cells A t)) (((w.alloc (.cells A t)).alloc (.cells B t)).alloc (.cells C t)) := below_two _ _ _
  have h2 : Below ((w.alloc (.cells A t)).alloc (.cells B t)).heap.size ((w.alloc (.cells A t)).alloc (.cells B t)) (((w.alloc (.cells A t)).alloc (.cells B t)).alloc (.cells C t)) := (Below.refl _ _).alloc (Nat.le_refl _) _
  have hb : Below w.heap.size w (w.alloc (.cells A t)) := (Below.refl _ _).alloc (Nat.le_refl _) _
  refine ⟨(RecAt.new w A t).later h1, ?_, ?_, hb.trans (h1.mono hb.size)⟩
  · have := (RecAt.new (w.alloc (.cells A t)) B t).later h2
    simpa using this
  · have := RecAt.new ((w.alloc (.cells A t)).alloc (.cells B t)) C t
    simpa using this
/-- Behind the switch, nothing more being laid than the three records. -/
theorem cut_plain {w : World} {l : List UInt8} {n : Nat} {k o m : Int} {S : ByteArray} {nm : List UInt8} {ok : Bool} (hS : S.data.toList = nm) (hs : S.size ≤ n) (hg : GuessOk l ⟨k, o, m, [], nm⟩ ok) :
    CutR w l n (((w.alloc (.cells #[.int .i64 0, .int .i64 0, .int .i64 0, .slice none 0 0, .string ⟨#[]⟩] 24)).alloc (.cells #[.int .i64 0, .int .i64 0, .int .i64 0, .slice none 0 0, .string ⟨#[]⟩] 24)).alloc (.cells #[.int .i64 k, .int .i64 o, .int .i64 m, .slice none 0 0, .string S] 24)) ⟨k, o, m, [], nm⟩ none 0 0 S ok := by
  obtain ⟨h1, h2, h3, h4⟩ := rec_three w #[.int .i64 0, .int .i64 0, .int .i64 0, .slice none 0 0, .string ⟨#[]⟩] #[.int .i64 0, .int .i64 0, .int .i64 0, .slice none 0 0, .string ⟨#[]⟩] #[.int .i64 k, .int .i64 o, .int .i64 m, .slice none 0 0, .string S] 24
  exact ⟨h1, h2, h3, Row.none _, rfl, hS, hg, h4, Nat.zero_le _, hs, fun x h => by cases h⟩
theorem row_three {w : World} {a : Option Addr} {c : Nat} {l : List UInt8} (h : Row w a c l) (x y z : Obj) : Row (((w.alloc x).alloc y).alloc z) a c l :=
  (row_two h x y).later ((Below.refl _ _).alloc (Nat.le_refl _) _)
theorem row_four {w : World} {a : Option Addr} {c : Nat} {l : List UInt8} (h : Row w a c l) (x y z u : Obj) : Row ((((w.alloc x).alloc y).alloc z).alloc u) a c l :=
  (row_three h x y z).later ((Below.refl _ _).alloc (Nat.le_refl _) _)
theorem empty_four (w : World) (x y z : Obj) : Own (((w.alloc x).alloc y).alloc z) ((((w.alloc x).alloc y).alloc z).alloc (.cells #[] 5)) (.slice (some ⟨w.heap.size + 1 + 1 + 1, 0, none⟩) 0 0) [] := by
  have := own_empty (W0 := ((w.alloc x).alloc y).alloc z) (w := ((w.alloc x).alloc y).alloc z) (Below.refl _ _)
  simpa using this
/-- Behind the switch, bytes having been laid for the data. -/
theorem cut_data {w w5 : World} {l d : List UInt8} {n dn : Nat} {k o : Int} {a5 : Option Addr} {c5 : Nat} {v : Value} {ok : Bool}
    (o5 : Own (((w.alloc (.cells #[.int .i64 0, .int .i64 0, .int .i64 0, .slice none 0 0, .string ⟨#[]⟩] 24)).alloc (.cells #[.int .i64 0, .int .i64 0, .int .i64 0, .slice none 0 0, .string ⟨#[]⟩] 24)).alloc (.cells #[.int .i64 k, .int .i64 o, .int .i64 0, .slice none 0 0, .string ⟨#[]⟩] 24)) w5 v d) (hv : v = .slice a5 dn c5) (hr : Row w5 a5 c5 d) (hat : ∀ x, a5 = some x → (((w.alloc (.cells #[.int .i64 0, .int .i64 0, .int .i64 0, .slice none 0 0, .string ⟨#[]⟩] 24)).alloc (.cells #[.int .i64 0, .int .i64 0, .int .i64 0, .slice none 0 0, .string ⟨#[]⟩] 24)).alloc (.cells #[.int .i64 k, .int .i64 o, .int .i64 0, .slice none 0 0, .string ⟨#[]⟩] 24)).heap.size ≤ x.block) (hd : d.length = dn) (hdn : dn ≤ n) (hg : GuessOk l ⟨k, o, 0, d, []⟩ ok) :
    CutR w l n (w5.setCell ⟨w.heap.size + 1 + 1, 3, none⟩ (.slice a5 dn c5)) ⟨k, o, 0, d, []⟩ a5 c5 dn ⟨#[]⟩ ok := by
  obtain ⟨h1, h2, h3, h4⟩ := rec_three w #[.int .i64 0, .int .i64 0, .int .i64 0, .slice none 0 0, .string ⟨#[]⟩] #[.int .i64 0, .int .i64 0, .int .i64 0, .slice none 0 0, .string ⟨#[]⟩] #[.int .i64 k, .int .i64 o, .int .i64 0, .slice none 0 0, .string ⟨#[]⟩] 24
  have hb := o5.below
  have hat2 : ∀ x, a5 = some x → w.heap.size + 1 + 1 < x.block := fun x hx => by
    have := hat x hx
    simp at this; omega
  refine ⟨(h1.later hb).other (by omega) 3 _, (h2.later hb).other (by omega) 3 _, (h3.later hb).set 3 _, hr.sameAt fun x hx => setCell_other _ (by have := hat2 x hx; omega) _ _, hd, rfl, hg, ?_, hdn, Nat.zero_le _, hat2⟩
  exact (h4.trans (hb.mono h4.size)).setCell (by simp; omega) _
set_option maxRecDepth 20000 in
set_option maxHeartbeats 2000000 in
theorem rget_any (hr : Row w ad c l) (hn : l.length = n) (hlen : n ≤ 100000) :
    Calls Try.prog 12 #[.slice ad n c] w fun e w' => EGot l w e w' := by
  have HL := Lib.hid hr
  have HN := Lib.hid hn
  rcases (show n = 0 ∨ 90 < n ∨ (0 < n ∧ n ≤ 90) by omega) with h | h | h
  · have HA := Lib.hid (getEv_long (b := l) (by omega))
    subst h
    clear hr hn
    go_enter Try.func12, Try.ntmps12
    go_wp2_with fail
    refine bodyPost_ret (results_ct rfl rfl (rec_two _ _ _ _) Try.underlying24 rfl (by kernel_rfl)) rfl ?_
    unfold EGot
    rw [HA.out]
    exact ⟨none, 0, rfl, Row.none _, below_two _ _ _⟩
  · have HA := Lib.hid (getEv_long (b := l) (by omega))
    clear hr hn
    go_enter Try.func12, Try.ntmps12
    go_wp2_with fail
    refine bodyPost_ret (results_ct rfl rfl (rec_two _ _ _ _) Try.underlying24 rfl (by kernel_rfl)) rfl ?_
    unfold EGot
    rw [HA.out]
    exact ⟨none, 0, rfl, Row.none _, below_two _ _ _⟩
  · obtain ⟨u, t, rfl⟩ : ∃ u t, l = u :: t := by
      cases l with
      | nil => simp at hn; omega
      | cons u t => exact ⟨u, t, rfl⟩
    obtain ⟨b, off, rfl, hc⟩ := hr.at (by omega)
    have hcell : ((w.alloc (.cells #[.int .i64 0, .int .i64 0, .int .i64 0, .slice none 0 0, .string ⟨#[]⟩] 24)).alloc (.cells #[.int .i64 0, .int .i64 0, .int .i64 0, .slice none 0 0, .string ⟨#[]⟩] 24)).cell? ⟨b, off, none⟩ = some (.int .u8 (u.toNat : Nat)) := by
      have h1 := hc 0 _ rfl
      rw [Nat.add_zero] at h1
      rw [(below_two w _ _).cell (World.block_lt_of_cell? w _ h1)]; exact h1
    have hn0 : ((n : Int) == 0) = false := by simp; omega
    have hu256 : u.toNat < 256 := u.toNat_lt
    clear hc hr hn
    go_enter Try.func12, Try.ntmps12
    go_upto_block 0 with fail
    go_cut [7] (fun so wx => ∃ (E : Ev) (a1 : Option Addr) (c1 dn : Nat) (S : ByteArray) (ok : Bool), so = .bool ok ∧ CutR w (u :: t) n wx E a1 c1 dn S ok)
    case first =>
      by_cases hu : u.toNat < 1 ∨ 7 < u.toNat
      · have HS := Lib.hid (guess_xx (t := t) hu)
        clear hcell
        generalize hk : u.toNat = k at *
        have t1 : ((k : Int) == 1) = false := by simp; omega
        have t2 : ((k : Int) == 2) = false := by simp; omega
        have t3 : ((k : Int) == 3) = false := by simp; omega
        have t4 : ((k : Int) == 4) = false := by simp; omega
        have t5 : ((k : Int) == 5) = false := by simp; omega
        have t6 : ((k : Int) == 6) = false := by simp; omega
        have t7 : ((k : Int) == 7) = false := by simp; omega
        clear hu hk
        go_wp2_with fail
        go_meet
        exact ⟨⟨(k : Nat), 0, 0, [], []⟩, none, 0, 0, ⟨#[]⟩, true, rfl, cut_plain rfl (Nat.zero_le _) (guessOk_of HS.out)⟩
      clear hcell
      rcases (show u.toNat = 1 ∨ u.toNat = 2 ∨ u.toNat = 3 ∨ u.toNat = 4 ∨ u.toNat = 5 ∨ u.toNat = 6 ∨ u.toNat = 7 by omega) with hk | hk | hk | hk | hk | hk | hk
      · obtain rfl : u = 1 := UInt8.toNat_inj.1 hk
        rw [show ((1 : UInt8).toNat : Int) = 1 from rfl]
        clear hu hk
        obtain ⟨o, p, z, hg⟩ : ∃ o p z, getVA (1 :: t) 1 = (o, p, z) := ⟨_, _, _, rfl⟩
        obtain ⟨q, rfl, hq⟩ := getVA_place hg (by decide)
        cases z with
        | false =>
          have HG := Lib.hid hg
          have HS : Hid (∀ e, GuessOk (1 :: t) e false) := Lib.hid fun e d hd hl => absurd (there_one (by decide) hg hd hl) (by simp)
          clear hg
          go_wp2_with (go_at_call 28; refine (rgetvar_any _ n c (1 :: t) _ _ (row_three HL.out _ _ _) HN.out hlen (by omega) (by omega)).mono ?_; rw [HG.out]; unfold Got3; rintro e w1 ⟨rfl, rfl⟩)
          go_meet
          exact ⟨⟨1, o, 0, [], []⟩, none, 0, 0, ⟨#[]⟩, false, rfl, cut_plain rfl (Nat.zero_le _) (HS.out _)⟩
        | true =>
          have HG := Lib.hid hg
          have HS := Lib.hid (guessOk_of (guess_ww hg))
          rw [HN.out] at hq
          obtain ⟨a', c', rs, hs⟩ := sl_from (lo := q) HL.out HN.out h.1 hq
          have RS := Lib.hid rs
          have HDL : Hid (((1 :: t).drop q).length = n - q) := Lib.hid (by rw [List.length_drop, HN.out])
          generalize (1 :: t).drop q = D at *
          clear hg rs
          go_wp2_with (first
            | (go_at_call 28; refine (rgetvar_any _ n c (1 :: t) _ _ (row_three HL.out _ _ _) HN.out hlen (by omega) (by omega)).mono ?_; rw [HG.out]; unfold Got3; rintro e w1 ⟨rfl, rfl⟩)
            | (at_builtin; refine wp_row rfl _ _ rfl _ _ rfl _ (empty_four _ _ _ _) a' c' (n - q) D (row_four RS.out _ _ _ _) HDL.out rfl (by have := HDL.out; simp only [List.length_nil]; omega) ?_; intro v5 w5 o5; obtain ⟨a5, c5, hv5, r5, at5⟩ := o5.rowAt HDL.out; rw [List.nil_append] at o5 r5; subst hv5; have HC5 := Lib.hid (fun g1 g2 => cut_data (l := 1 :: t) (ok := true) o5 rfl r5 (fun x hx => (at5 x hx).1) HDL.out (n := n) g1 g2); have x3 := ((rec_three w _ _ _ _).2.2.1.later o5.below).cell (i := 3) rfl; have f3 := ((rec_three w _ _ _ _).2.2.1.later o5.below).frozen 3))
          go_meet
          exact ⟨⟨1, o, 0, D, []⟩, a5, c5, n - q, ⟨#[]⟩, true, rfl, HC5.out (by omega) HS.out⟩
      · obtain rfl : u = 2 := UInt8.toNat_inj.1 hk
        rw [show ((2 : UInt8).toNat : Int) = 2 from rfl]
        clear hu hk
        obtain ⟨o, p, z, hg⟩ : ∃ o p z, getVA (2 :: t) 1 = (o, p, z) := ⟨_, _, _, rfl⟩
        obtain ⟨q, rfl, hq⟩ := getVA_place hg (by decide)
        cases z with
        | false =>
          have HG := Lib.hid hg
          have HS : Hid (∀ e, GuessOk (2 :: t) e false) := Lib.hid fun e d hd hl => absurd (there_one (by decide) hg hd hl) (by simp)
          clear hg
          go_wp2_with (go_at_call 28; refine (rgetvar_any _ n c (2 :: t) _ _ (row_three HL.out _ _ _) HN.out hlen (by omega) (by omega)).mono ?_; rw [HG.out]; unfold Got3; rintro e w1 ⟨rfl, rfl⟩)
          go_meet
          exact ⟨⟨2, o, 0, [], []⟩, none, 0, 0, ⟨#[]⟩, false, rfl, cut_plain rfl (Nat.zero_le _) (HS.out _)⟩
        | true =>
          obtain ⟨x, y, z2, hg2⟩ : ∃ x y z2, getVA (2 :: t) ((q : Nat) : Int) = (x, y, z2) := ⟨_, _, _, rfl⟩
          have HG := Lib.hid hg
          have HG2 := Lib.hid hg2
          have HS : Hid (GuessOk (2 :: t) ⟨2, o, x, [], []⟩ z2) := Lib.hid fun d hd hl => ⟨guess_dd (by decide) hg hg2 d hd hl, there_two (by decide) hg hg2 hd hl⟩
          rw [HN.out] at hq
          clear hg hg2
          go_wp2_with (first
            | (go_at_call 28; refine (rgetvar_any _ n c (2 :: t) _ _ (row_three HL.out _ _ _) HN.out hlen (by omega) (by omega)).mono ?_; rw [HG.out]; unfold Got3; rintro e w1 ⟨rfl, rfl⟩)
            | (go_at_call 28; refine (rgetvar_any _ n c (2 :: t) _ _ (row_three HL.out _ _ _) HN.out hlen (by omega) (by omega)).mono ?_; rw [HG2.out]; unfold Got3; rintro e w1 ⟨rfl, rfl⟩))
          go_meet
          exact ⟨⟨2, o, x, [], []⟩, none, 0, 0, ⟨#[]⟩, z2, rfl, cut_plain rfl (Nat.zero_le _) HS.out⟩
      · obtain rfl : u = 3 := UInt8.toNat_inj.1 hk
        rw [show ((3 : UInt8).toNat : Int) = 3 from rfl]
        clear hu hk
        obtain ⟨o, p, z, hg⟩ : ∃ o p z, getVA (3 :: t) 1 = (o, p, z) := ⟨_, _, _, rfl⟩
        obtain ⟨q, rfl, hq⟩ := getVA_place hg (by decide)
        cases z with
        | false =>
          have HG := Lib.hid hg
          have HS : Hid (∀ e, GuessOk (3 :: t) e false) := Lib.hid fun e d hd hl => absurd (there_one (by decide) hg hd hl) (by simp)
          clear hg
          go_wp2_with (go_at_call 28; refine (rgetvar_any _ n c (3 :: t) _ _ (row_three HL.out _ _ _) HN.out hlen (by omega) (by omega)).mono ?_; rw [HG.out]; unfold Got3; rintro e w1 ⟨rfl, rfl⟩)
          go_meet
          exact ⟨⟨3, o, 0, [], []⟩, none, 0, 0, ⟨#[]⟩, false, rfl, cut_plain rfl (Nat.zero_le _) (HS.out _)⟩
        | true =>
          obtain ⟨x, y, z2, hg2⟩ : ∃ x y z2, getVA (3 :: t) ((q : Nat) : Int) = (x, y, z2) := ⟨_, _, _, rfl⟩
          have HG := Lib.hid hg
          have HG2 := Lib.hid hg2
          have HS : Hid (GuessOk (3 :: t) ⟨3, o, x, [], []⟩ z2) := Lib.hid fun d hd hl => ⟨guess_dd (by decide) hg hg2 d hd hl, there_two (by decide) hg hg2 hd hl⟩
          rw [HN.out] at hq
          clear hg hg2
          go_wp2_with (first
            | (go_at_call 28; refine (rgetvar_any _ n c (3 :: t) _ _ (row_three HL.out _ _ _) HN.out hlen (by omega) (by omega)).mono ?_; rw [HG.out]; unfold Got3; rintro e w1 ⟨rfl, rfl⟩)
            | (go_at_call 28; refine (rgetvar_any _ n c (3 :: t) _ _ (row_three HL.out _ _ _) HN.out hlen (by omega) (by omega)).mono ?_; rw [HG2.out]; unfold Got3; rintro e w1 ⟨rfl, rfl⟩))
          go_meet
          exact ⟨⟨3, o, x, [], []⟩, none, 0, 0, ⟨#[]⟩, z2, rfl, cut_plain rfl (Nat.zero_le _) HS.out⟩
      · obtain rfl : u = 4 := UInt8.toNat_inj.1 hk
        rw [show ((4 : UInt8).toNat : Int) = 4 from rfl]
        clear hu hk
        obtain ⟨x, y, z, hg⟩ : ∃ x y z, getVA (4 :: t) 1 = (x, y, z) := ⟨_, _, _, rfl⟩
        have HG := Lib.hid hg
        have HS : Hid (GuessOk (4 :: t) ⟨4, 0, x, [], []⟩ z) := Lib.hid fun d hd hl => ⟨guess_rr hg d hd hl, there_one (by decide) hg hd hl⟩
        clear hg
        go_wp2_with (go_at_call 28; refine (rgetvar_any _ n c (4 :: t) _ _ (row_three HL.out _ _ _) HN.out hlen (by omega) (by omega)).mono ?_; rw [HG.out]; unfold Got3; rintro e w1 ⟨rfl, rfl⟩)
        go_meet
        exact ⟨⟨4, 0, x, [], []⟩, none, 0, 0, ⟨#[]⟩, z, rfl, cut_plain rfl (Nat.zero_le _) HS.out⟩
      · obtain rfl : u = 5 := UInt8.toNat_inj.1 hk
        rw [show ((5 : UInt8).toNat : Int) = 5 from rfl]
        clear hu hk
        obtain ⟨a', c', rs, hs⟩ := sl_from (lo := 1) HL.out HN.out h.1 (by omega)
        have hs : ∀ W, (Instr.slice 22 (.slice (some ⟨b, off, none⟩) n c) (some (.int .i64 1)) none none).run Try.prog W = .ok (.slice a' (n - 1) c') W := hs
        have HS : Hid (GuessOk (5 :: t) ⟨5, 0, 0, [], t⟩ true) := Lib.hid (guessOk_of (guess_nn (u := 5) (by decide)))
        have HDL : Hid (t.length = n - 1) := Lib.hid (by have := HN.out; simp at this; omega)
        have hcv : ∀ x y z, (convert 22 9 (.slice a' (n - 1) c')).run Try.prog (((w.alloc x).alloc y).alloc z) = .ok (.string ⟨t.toArray⟩) (((w.alloc x).alloc y).alloc z) := fun x y z => conv_row_n (row_three rs x y z) HDL.out
        obtain ⟨S, hS⟩ : ∃ S : ByteArray, ⟨t.toArray⟩ = S := ⟨_, rfl⟩
        have HSS : Hid (S.data.toList = t) := Lib.hid (by rw [← hS])
        have HSN : Hid (S.size ≤ n) := Lib.hid (by rw [← hS]; have := HDL.out; simp [ByteArray.size]; omega)
        rw [hS] at hcv
        clear rs hS
        go_wp2_with fail
        go_meet
        exact ⟨⟨5, 0, 0, [], t⟩, none, 0, 0, S, true, rfl, cut_plain HSS.out HSN.out HS.out⟩
      · obtain rfl : u = 6 := UInt8.toNat_inj.1 hk
        rw [show ((6 : UInt8).toNat : Int) = 6 from rfl]
        clear hu hk
        obtain ⟨a', c', rs, hs⟩ := sl_from (lo := 1) HL.out HN.out h.1 (by omega)
        have hs : ∀ W, (Instr.slice 22 (.slice (some ⟨b, off, none⟩) n c) (some (.int .i64 1)) none none).run Try.prog W = .ok (.slice a' (n - 1) c') W := hs
        have HS : Hid (GuessOk (6 :: t) ⟨6, 0, 0, [], t⟩ true) := Lib.hid (guessOk_of (guess_nn (u := 6) (by decide)))
        have HDL : Hid (t.length = n - 1) := Lib.hid (by have := HN.out; simp at this; omega)
        have hcv : ∀ x y z, (convert 22 9 (.slice a' (n - 1) c')).run Try.prog (((w.alloc x).alloc y).alloc z) = .ok (.string ⟨t.toArray⟩) (((w.alloc x).alloc y).alloc z) := fun x y z => conv_row_n (row_three rs x y z) HDL.out
        obtain ⟨S, hS⟩ : ∃ S : ByteArray, ⟨t.toArray⟩ = S := ⟨_, rfl⟩
        have HSS : Hid (S.data.toList = t) := Lib.hid (by rw [← hS])
        have HSN : Hid (S.size ≤ n) := Lib.hid (by rw [← hS]; have := HDL.out; simp [ByteArray.size]; omega)
        rw [hS] at hcv
        clear rs hS
        go_wp2_with fail
        go_meet
        exact ⟨⟨6, 0, 0, [], t⟩, none, 0, 0, S, true, rfl, cut_plain HSS.out HSN.out HS.out⟩
      · obtain rfl : u = 7 := UInt8.toNat_inj.1 hk
        rw [show ((7 : UInt8).toNat : Int) = 7 from rfl]
        clear hu hk
        obtain ⟨a', c', rs, hs⟩ := sl_from (lo := 1) HL.out HN.out h.1 (by omega)
        have hs : ∀ W, (Instr.slice 22 (.slice (some ⟨b, off, none⟩) n c) (some (.int .i64 1)) none none).run Try.prog W = .ok (.slice a' (n - 1) c') W := hs
        have HS : Hid (GuessOk (7 :: t) ⟨7, 0, 0, [], t⟩ true) := Lib.hid (guessOk_of (guess_nn (u := 7) (by decide)))
        have HDL : Hid (t.length = n - 1) := Lib.hid (by have := HN.out; simp at this; omega)
        have hcv : ∀ x y z, (convert 22 9 (.slice a' (n - 1) c')).run Try.prog (((w.alloc x).alloc y).alloc z) = .ok (.string ⟨t.toArray⟩) (((w.alloc x).alloc y).alloc z) := fun x y z => conv_row_n (row_three rs x y z) HDL.out
        obtain ⟨S, hS⟩ : ∃ S : ByteArray, ⟨t.toArray⟩ = S := ⟨_, rfl⟩
        have HSS : Hid (S.data.toList = t) := Lib.hid (by rw [← hS])
        have HSN : Hid (S.size ≤ n) := Lib.hid (by rw [← hS]; have := HDL.out; simp [ByteArray.size]; omega)
        rw [hS] at hcv
        clear rs hS
        go_wp2_with fail
        go_meet
        exact ⟨⟨7, 0, 0, [], t⟩, none, 0, 0, S, true, rfl, cut_plain HSS.out HSN.out HS.out⟩
    case rest =>
      obtain ⟨E, a1, c1, dn, S, ok, rfl, z1, z2, e3, rD, hd, hS, hg, hb, hdn, hSn, hat⟩ := hcut
      obtain ⟨k, o, m, d, nm⟩ := E
      simp only at e3 rD hd hS
      obtain ⟨l, hl⟩ : ∃ l, (u :: t : List UInt8) = l := ⟨_, rfl⟩
      rw [hl] at HN HL hg
      have HLL := Lib.hid hl
      clear hl
      have HX2 := Lib.hid z1
      have HY2 := Lib.hid z2
      have HE2 := Lib.hid e3
      have HR2 := Lib.hid rD
      have HD := Lib.hid hd
      have HSN := Lib.hid hS
      have HG := Lib.hid hg
      have HB2 := Lib.hid hb
      have HDN := Lib.hid hdn
      have HSS := Lib.hid hSn
      have HAT := Lib.hid hat
      obtain ⟨x0, x1, x2, x3, x4⟩ := e3.c5
      clear hcell z1 z2 e3 rD hd hS hg hb hdn hSn hat
      go_wp2_with fail
      refine (rputE ⟨k, o, m, d, nm⟩ a1 dn c1 S wc HR2.out HD.out HSN.out (by have := HSS.out; omega)).mono ?_
      rintro e w3 ⟨v3, rfl, o3⟩
      have HB3 := Lib.hid (HB2.out.trans (o3.below.mono HB2.out.size))
      have HX3 := Lib.hid (HX2.out.later o3.below)
      have HY3 := Lib.hid (HY2.out.later o3.below)
      have HE3 := Lib.hid (HE2.out.later o3.below)
      have HR3 := Lib.hid (HR2.out.later o3.below)
      have HL3 := Lib.hid (HL.out.later HB3.out)
      have HCL : Hid ((convert 22 9 (.slice (some ⟨b, off, none⟩) n c)).run Try.prog w3 = .ok (.string ⟨l.toArray⟩) w3) := Lib.hid (conv_row_n HL3.out HN.out)
      clear x0 x1 x2 x3 x4
      obtain ⟨a3, c3, rfl, r3⟩ := o3.row
      obtain ⟨n3, hn3⟩ : ∃ n3, (putEv ⟨k, o, m, d, nm⟩).1.length = n3 := ⟨_, rfl⟩
      rw [hn3]
      have hcv1 := conv_row_n r3 hn3
      clear o3 r3 hn3
      have hcv2 := HCL.out
      have HBS : Hid (((⟨(putEv ⟨k, o, m, d, nm⟩).1.toArray⟩ : ByteArray) = ⟨l.toArray⟩) ↔ (putEv ⟨k, o, m, d, nm⟩).1 = l) := Lib.hid bytes_eq
      generalize (⟨(putEv ⟨k, o, m, d, nm⟩).1.toArray⟩ : ByteArray) = S1 at *
      generalize (⟨l.toArray⟩ : ByteArray) = S2 at *
      have HNO : Hid ((ok = false ∨ (putEv ⟨k, o, m, d, nm⟩).2 ≠ 0 ∨ S1 ≠ S2) → getEv l = (noEv, 2)) := by
        refine Lib.hid fun hx => getEv_none fun d2 hd2 hl2 => ?_
        obtain ⟨he, hok⟩ := HG.out d2 hd2 hl2
        subst he
        have hp := putEv_yes hd2
        rcases hx with hx | hx | hx
        · rw [hok] at hx; cases hx
        · rw [hp] at hx; exact hx rfl
        · exact hx (HBS.out.2 (by rw [hp]; exact hl2))
      have HYES : Hid (ok = true → (putEv ⟨k, o, m, d, nm⟩).2 = 0 → S1 = S2 → getEv l = (⟨k, o, m, d, nm⟩, 0)) := by
        refine Lib.hid fun _ h2 h3 => ?_
        have h4 := HBS.out.1 h3
        cases hrt : (Ev.mk k o m d nm).right with
        | true => rw [putEv_yes hrt] at h4; exact getEv_some hrt h4
        | false => rw [putEv_no hrt] at h2; cases h2
      obtain ⟨er, her⟩ : ∃ er, (putEv ⟨k, o, m, d, nm⟩).2 = er := ⟨_, rfl⟩
      rw [her] at HNO HYES ⊢
      obtain ⟨y0, y1, y2, y3, y4⟩ := HY3.out.c5
      obtain ⟨x0, x1, x2, x3, x4⟩ := HE3.out.c5
      clear HBS her HCL HG
      cases ok with
      | false =>
        have HA := Lib.hid (HNO.out (.inl rfl))
        clear HNO HYES
        go_wp2_with (first
          | (refine wpList_rec rfl rfl w.heap.size #[.int .i64 0, .int .i64 0, .int .i64 0, .slice none 0 0, .string ⟨#[]⟩] #[.int .i64 0, .int .i64 0, .int .i64 0, .slice none 0 0, .string ⟨#[]⟩] rfl rfl HX3.out rfl (by kernel_rfl) (by kernel_rfl) ?_; intro w4 q1 q2 q3 q4))
        refine bodyPost_ret (results_ct rfl rfl q1 Try.underlying24 rfl (by kernel_rfl)) rfl ?_
        unfold EGot
        rw [HLL.out, HA.out]
        exact ⟨none, 0, rfl, Row.none _, HB3.out.grown q4 HB3.out.size (fun k e => by cases e; exact Nat.le_refl _)⟩
      | true =>
       by_cases he : er = 0
       · subst he
         have he2 : ((0 : Int) != 0) = false := rfl
         by_cases hs : S1 = S2
         · have HA := Lib.hid (HYES.out rfl rfl hs)
           subst hs
           have hs2 : (S1.toList == S1.toList) = true := by simp
           have hs3 : (S1.toList != S1.toList) = false := by simp
           clear HNO HYES
           go_wp2_with (refine wpList_rec rfl rfl w.heap.size #[.int .i64 0, .int .i64 0, .int .i64 0, .slice none 0 0, .string ⟨#[]⟩] #[.int .i64 k, .int .i64 o, .int .i64 m, .slice a1 dn c1, .string S] rfl rfl HX3.out rfl (by kernel_rfl) (by kernel_rfl) ?_; intro w6 q1 q2 q3 q4)
           refine bodyPost_ret (results_ct rfl rfl q1 Try.underlying24 rfl (by kernel_rfl)) rfl ?_
           unfold EGot
           rw [HLL.out, HA.out]
           refine ⟨a1, c1, ?_, HR3.out.sameAt fun x hx => q3 _ (by have := HAT.out x hx; omega), HB3.out.grown q4 HB3.out.size (fun k e => by cases e; exact Nat.le_refl _)⟩
           unfold evV
           simp only
           rw [HD.out, ← HSN.out, bytes_eta]
           rfl
         · have HA := Lib.hid (HNO.out (.inr (.inr hs)))
           have hs2 := sbeq_no hs
           have hs3 : (S1.toList != S2.toList) = true := by rw [bne, hs2]; rfl
           clear HNO HYES hs
           go_wp2_with (first
             | (refine wpList_rec rfl rfl w.heap.size #[.int .i64 0, .int .i64 0, .int .i64 0, .slice none 0 0, .string ⟨#[]⟩] #[.int .i64 0, .int .i64 0, .int .i64 0, .slice none 0 0, .string ⟨#[]⟩] rfl rfl HX3.out rfl (by kernel_rfl) (by kernel_rfl) ?_; intro w4 q1 q2 q3 q4))
           refine bodyPost_ret (results_ct rfl rfl q1 Try.underlying24 rfl (by kernel_rfl)) rfl ?_
           unfold EGot
           rw [HLL.out, HA.out]
           exact ⟨none, 0, rfl, Row.none _, HB3.out.grown q4 HB3.out.size (fun k e => by cases e; exact Nat.le_refl _)⟩
       · have HA := Lib.hid (HNO.out (.inr (.inl he)))
         have he2 : (er != 0) = true := by simpa using he
         have he3 : (er == 0) = false := by simpa using he
         clear HNO HYES he
         go_wp2_with (first
           | (refine wpList_rec rfl rfl w.heap.size #[.int .i64 0, .int .i64 0, .int .i64 0, .slice none 0 0, .string ⟨#[]⟩] #[.int .i64 0, .int .i64 0, .int .i64 0, .slice none 0 0, .string ⟨#[]⟩] rfl rfl HX3.out rfl (by kernel_rfl) (by kernel_rfl) ?_; intro w4 q1 q2 q3 q4))
         refine bodyPost_ret (results_ct rfl rfl q1 Try.underlying24 rfl (by kernel_rfl)) rfl ?_
         unfold EGot
         rw [HLL.out, HA.out]
         exact ⟨none, 0, rfl, Row.none _, HB3.out.grown q4 HB3.out.size (fun k e => by cases e; exact Nat.le_refl _)⟩
end
end Go.Proofs.Ytnllopfhfijjbaa
