/- Events: what is got: guess. -/
import Derived.Test.YtnllopfhfijjbaaEvS
import Derived.Test.YtnllopfhfijjbaaGet
import Derived.Deep.DeepCutAuto
namespace Go.Proofs.Ytnllopfhfijjbaa
open Go.RowKit
set_option linter.unusedVariables false
set_option linter.unusedSimpArgs false

/-- What bytes are guessed to be: if they are some event's, then this one's. -/
def Guess (l : List UInt8) (e : Ev) : Prop := ∀ d : Ev, d.right = true → putE d = l → e = d
theorem guess_parse {l : List UInt8} {e : Ev} (h : parseE l = (e, true)) : Guess l e := fun d hd hl => by
  subst hl
  rw [parse_put hd] at h
  cases h; rfl
theorem guess_none {l : List UInt8} {e f : Ev} (h : parseE l = (f, false)) : Guess l e := fun d hd hl => by
  subst hl
  rw [parse_put hd] at h
  cases h
theorem guess_nil {e : Ev} : Guess [] e := fun d hd hl => by have := putE_len hd; rw [hl] at this; simp at this
theorem gvA_one (u : UInt8) (t : List UInt8) : gvA (u :: t) 1 = getV t := by
  unfold gvA; rw [if_pos (by simp only [List.length_cons]; omega)]; rfl
theorem gvA_nat {l : List UInt8} {p : Nat} (h : p ≤ l.length) : gvA l (p : Nat) = getV (l.drop p) := by
  unfold gvA; rw [if_pos (by omega)]; simp
theorem kind_put {d : Ev} {u : UInt8} {t : List UInt8} (hd : d.right = true) (h : putE d = u :: t) : d.kind = (u.toNat : Nat) ∧ bodyE d = t := by
  have hk := right_kind hd
  unfold putE at h
  rw [List.cons.injEq] at h
  refine ⟨?_, h.2⟩
  rw [← h.1, UInt8.toNat_ofNat']; omega
theorem getVA_place {l : List UInt8} {q : Int} {o p : Int} {z : Bool} (h : getVA l q = (o, p, z)) (hq : 0 ≤ q) : ∃ a : Nat, p = a ∧ a ≤ l.length := by
  cases hg : gvA l q with
  | none => rw [getVA_none hg] at h; cases h; exact ⟨0, rfl, Nat.zero_le _⟩
  | some x =>
    obtain ⟨n, j⟩ := x
    rw [getVA_some hg] at h; cases h
    have := gvA_bound hg
    exact ⟨q.toNat + j, by omega, by omega⟩
theorem getVA_nat {l : List UInt8} {q : Int} {o p : Int} {z : Bool} (h : getVA l q = (o, p, z)) : 0 ≤ o ∧ o < 9223372036854775808 := by
  cases hg : gvA l q with
  | none => rw [getVA_none hg] at h; cases h; omega
  | some x =>
    obtain ⟨n, j⟩ := x
    rw [getVA_some hg] at h; cases h
    have := gvA_bound hg
    omega
theorem getVA_put {d : Nat} {l x : List UInt8} {q : Nat} {o p : Int} {z : Bool} (h : getVA l q = (o, p, z)) (hq : q ≤ l.length) (hl : l.drop q = varL d ++ x) (hd : d < 9223372036854775808) : o = d ∧ p = (q : Int) + (varL d).length ∧ z = true := by
  have hg : gvA l q = some (d, (varL d).length) := by rw [gvA_nat hq, hl]; exact getV_varL hd x
  rw [getVA_some hg] at h
  cases h; exact ⟨rfl, rfl, rfl⟩
theorem guess_ww {t : List UInt8} {o : Int} {p : Nat} {z : Bool} (h : getVA (1 :: t) 1 = (o, ((p : Nat) : Int), z)) : Guess (1 :: t) ⟨1, o, 0, (1 :: t).drop p, []⟩ := fun d hd hl => by
  obtain ⟨hk, hb⟩ := kind_put hd hl
  obtain ⟨k, o', n, da, na⟩ := d
  simp only at hk
  obtain rfl : k = 1 := hk
  rcases right_iff.1 hd with h1 | h1 | h1 | h1 | h1 <;> simp only [within_iff] at h1 <;> try (exfalso; omega)
  obtain ⟨_, _, h2, h3, h4⟩ := h1
  rw [bodyE_w rfl] at hb
  simp only at hb
  have := getVA_put (q := 1) (x := da) (d := o'.toNat) h (by simp) (by rw [hb]; rfl) (by omega)
  have h5 : (1 :: t).drop p = da := by
    rw [show p = (varL o'.toNat).length + 1 by omega, List.drop_succ_cons, ← hb, List.drop_left]
  rw [h5, h3, h4, show o = o' by omega]
theorem guess_dd {u : UInt8} {t : List UInt8} {o x : Int} {p : Nat} {y : Int} {z z2 : Bool} (hu : u.toNat = 2 ∨ u.toNat = 3) (h : getVA (u :: t) 1 = (o, ((p : Nat) : Int), z)) (h' : getVA (u :: t) ((p : Nat) : Int) = (x, y, z2)) : Guess (u :: t) ⟨(u.toNat : Nat), o, x, [], []⟩ := fun d hd hl => by
  obtain ⟨hk, hb⟩ := kind_put hd hl
  obtain ⟨k, o', n, da, na⟩ := d
  simp only at hk
  rcases right_iff.1 hd with h1 | h1 | h1 | h1 | h1 <;> simp only [within_iff] at h1 <;> try (exfalso; omega)
  obtain ⟨hk2, h2, h3, h4⟩ := h1
  rw [bodyE_d hk2] at hb
  simp only at hb
  have h6 := getVA_put (q := 1) (x := varL n.toNat) (d := o'.toNat) h (by simp) (by rw [← hb]; rfl) (by omega)
  have hp : p = (varL o'.toNat).length + 1 := by omega
  have h7 := getVA_put (q := p) (x := []) (d := n.toNat) h' (by rw [hp, ← hb]; simp) (by rw [hp, List.drop_succ_cons, ← hb, List.drop_left, List.append_nil]) (by omega)
  rw [h2, h4, show o = o' by omega, show x = n by omega, hk]
theorem guess_rr {t : List UInt8} {x y : Int} {z : Bool} (h : getVA (4 :: t) 1 = (x, y, z)) : Guess (4 :: t) ⟨4, 0, x, [], []⟩ := fun d hd hl => by
  obtain ⟨hk, hb⟩ := kind_put hd hl
  obtain ⟨k, o', n, da, na⟩ := d
  simp only at hk
  obtain rfl : k = 4 := hk
  rcases right_iff.1 hd with h1 | h1 | h1 | h1 | h1 <;> simp only [within_iff] at h1 <;> try (exfalso; omega)
  obtain ⟨hk2, h2, h3, h4, h5, h8⟩ := h1
  rw [bodyE_r rfl] at hb
  simp only at hb
  have h6 := getVA_put (q := 1) (x := []) (d := n.toNat) h (by simp) (by rw [← hb, List.append_nil]; rfl) (by omega)
  rw [h2, h3, h8, show x = n by omega]
theorem guess_nn {u : UInt8} {t : List UInt8} (hu : u.toNat = 5 ∨ u.toNat = 6 ∨ u.toNat = 7) : Guess (u :: t) ⟨(u.toNat : Nat), 0, 0, [], t⟩ := fun d hd hl => by
  obtain ⟨hk, hb⟩ := kind_put hd hl
  obtain ⟨k, o', n, da, na⟩ := d
  simp only at hk
  rcases right_iff.1 hd with h1 | h1 | h1 | h1 | h1 <;> simp only [within_iff] at h1 <;> try (exfalso; omega)
  obtain ⟨hk2, h2, h3, h4, h5⟩ := h1
  rw [bodyE_n hk2] at hb
  simp only at hb
  rw [h2, h3, h4, hb, hk]
theorem guess_xx {u : UInt8} {t : List UInt8} (hu : u.toNat < 1 ∨ 7 < u.toNat) : Guess (u :: t) ⟨(u.toNat : Nat), 0, 0, [], []⟩ := fun d hd hl => by
  obtain ⟨hk, hb⟩ := kind_put hd hl
  obtain ⟨k, o', n, da, na⟩ := d
  simp only at hk
  rcases right_iff.1 hd with h1 | h1 | h1 | h1 | h1 <;> simp only [within_iff] at h1 <;> try (exfalso; omega)
  obtain ⟨hk2, h2, h3, h4, h5⟩ := h1
  rw [h2, h3, h4, h5, hk]
/-- The same, and whether its numbers are there. -/
def GuessOk (l : List UInt8) (e : Ev) (ok : Bool) : Prop := ∀ d : Ev, d.right = true → putE d = l → e = d ∧ ok = true
theorem guessOk_of {l : List UInt8} {e : Ev} (h : Guess l e) : GuessOk l e true := fun d hd hl => ⟨h d hd hl, rfl⟩
theorem there_one {u : UInt8} {t : List UInt8} {o p : Int} {z : Bool} {d : Ev} (hu : 1 ≤ u.toNat ∧ u.toNat ≤ 4) (h : getVA (u :: t) 1 = (o, p, z)) (hd : d.right = true) (hl : putE d = u :: t) : z = true := by
  obtain ⟨hk, hb⟩ := kind_put hd hl
  obtain ⟨k, o', n, da, na⟩ := d
  simp only at hk
  rcases right_iff.1 hd with h1 | h1 | h1 | h1 | h1 <;> simp only [within_iff] at h1 <;> try (exfalso; omega)
  · rw [bodyE_w h1.1] at hb
    exact (getVA_put (q := 1) (x := da) (d := o'.toNat) h (by simp) (by rw [← hb]; rfl) (by omega)).2.2
  · rw [bodyE_d h1.1] at hb
    exact (getVA_put (q := 1) (x := varL n.toNat) (d := o'.toNat) h (by simp) (by rw [← hb]; rfl) (by omega)).2.2
  · rw [bodyE_r h1.1] at hb
    exact (getVA_put (q := 1) (x := []) (d := n.toNat) h (by simp) (by rw [← hb, List.append_nil]; rfl) (by omega)).2.2
theorem there_two {u : UInt8} {t : List UInt8} {o x y : Int} {p : Nat} {z z2 : Bool} {d : Ev} (hu : u.toNat = 2 ∨ u.toNat = 3) (h : getVA (u :: t) 1 = (o, ((p : Nat) : Int), z)) (h' : getVA (u :: t) ((p : Nat) : Int) = (x, y, z2)) (hd : d.right = true) (hl : putE d = u :: t) : z2 = true := by
  obtain ⟨hk, hb⟩ := kind_put hd hl
  obtain ⟨k, o', n, da, na⟩ := d
  simp only at hk
  rcases right_iff.1 hd with h1 | h1 | h1 | h1 | h1 <;> simp only [within_iff] at h1 <;> try (exfalso; omega)
  obtain ⟨hk2, h2, h3, h4⟩ := h1
  rw [bodyE_d hk2] at hb
  simp only at hb
  have h6 := getVA_put (q := 1) (x := varL n.toNat) (d := o'.toNat) h (by simp) (by rw [← hb]; rfl) (by omega)
  have hp : p = (varL o'.toNat).length + 1 := by omega
  exact (getVA_put (q := p) (x := []) (d := n.toNat) h' (by rw [hp, ← hb]; simp) (by rw [hp, List.drop_succ_cons, ← hb, List.drop_left, List.append_nil]) (by omega)).2.2
/-- An event as a value. -/
def evV (e : Ev) (a : Option Addr) (c : Nat) : Value := .agg #[.int .i64 e.kind, .int .i64 e.off, .int .i64 e.len, .slice a e.data.length c, .string ⟨e.name.toArray⟩]
/-- 's[lo:]' of bytes. -/
theorem sl_from {w : World} {a : Option Addr} {n cap lo : Nat} {l : List UInt8} (hr : Row w a cap l) (hn : l.length = n) (h0 : 0 < n) (h1 : lo ≤ n) :
    ∃ a' c', Row w a' c' (l.drop lo) ∧ ∀ W, (Instr.slice 22 (.slice a n cap) (some (.int .i64 lo)) none none).run Try.prog W = .ok (.slice a' (n - lo) c') W := by
  obtain ⟨b, off, rfl, hc⟩ := hr.at (by omega)
  have hle := hr.1
  have hmx := hr.2.1
  by_cases hlt : lo < cap
  · exact ⟨some ⟨b, off + lo, none⟩, cap - lo, hr.drop lo (by omega), fun W => run_sl_end W b off n cap lo h1 (by omega) hlt⟩
  · have e1 : lo = n := by omega
    have e2 : cap = n := by omega
    subst e1 e2
    refine ⟨some ⟨b, off, none⟩, 0, ?_, fun W => ?_⟩
    · rw [List.drop_of_length_le (by omega)]
      exact Row.empty w _ 0 (by simp [maxLen]) (fun h => by cases h)
    · simp [Instr.slice, Instr.sliceBounds, Instr.sliceBound, asIntOf, run_underlying Try.underlying22, Result.andThen]

section
variable (ad : Option Addr) (n c : Nat) (l : List UInt8) (w : World)
def Guessed (l : List UInt8) (n : Nat) (w : World) (e : Ending) (w' : World) : Prop :=
  ∃ E a c, e = .returned (evV E a c) ∧ Row w' a c E.data ∧ Guess l E ∧ E.data.length ≤ n ∧ E.name.length ≤ n ∧ Below w.heap.size w w'
theorem row_two {w : World} {a : Option Addr} {c : Nat} {l : List UInt8} (h : Row w a c l) (x y : Obj) : Row ((w.alloc x).alloc y) a c l :=
  h.later (((Below.refl _ _).alloc (Nat.le_refl _) _).alloc (by simp) _)
theorem below_two (w : World) (x y : Obj) : Below w.heap.size w ((w.alloc x).alloc y) := ((Below.refl _ _).alloc (Nat.le_refl _) _).alloc (by simp) _
theorem rec_two (w : World) (cs : Array Value) (t : TypeId) (y : Obj) : RecAt ((w.alloc (.cells cs t)).alloc y) w.heap.size cs t := (RecAt.new w cs t).later ((Below.refl _ _).alloc (Nat.le_refl _) _)
theorem guess_0 (hr : Row w ad c []) (hlen : n = 0) :
    Calls Try.prog 25 #[.slice ad n c] w fun e w' => Guessed [] n w e w' := by
  subst hlen
  clear hr
  go_enter Try.func25, Try.ntmps25
  go_wp2_with fail
  refine bodyPost_ret (results_c rfl rfl (RecAt.new _ _ _) Try.underlying24 rfl (by kernel_rfl)) rfl ?_
  exact ⟨noEv, none, 0, rfl, Row.none _, guess_nil, Nat.le_refl _, Nat.le_refl _, (Below.refl _ _).alloc (Nat.le_refl _) _⟩
set_option maxHeartbeats 1000000 in
theorem guess_1 (t : List UInt8) (hr : Row w ad c (1 :: t)) (hn : (1 :: t).length = n) (hlen : n ≤ 100000) :
    Calls Try.prog 25 #[.slice ad n c] w fun e w' => Guessed (1 :: t) n w e w' := by
  have HR := Lib.hid hr
  have HN := Lib.hid hn
  have h0 : 0 < n := by simp at hn; omega
  obtain ⟨b, off, rfl, hc⟩ := hr.at (by simp)
  have hcell : (w.alloc (.cells #[.int .i64 0, .int .i64 0, .int .i64 0, .slice none 0 0, .string ⟨#[]⟩] 24)).cell? ⟨b, off, none⟩ = some (.int .u8 1) := by
    have h1 := hc 0 _ rfl
    rw [Nat.add_zero] at h1
    rw [((Below.refl w.heap.size w).alloc (Nat.le_refl _) _).cell (World.block_lt_of_cell? w _ h1)]; exact h1
  have hn0 : ((n : Int) == 0) = false := by simp; omega
  clear hc
  obtain ⟨o, p, z, hg⟩ : ∃ o p z, getVA (1 :: t) 1 = (o, p, z) := ⟨_, _, _, rfl⟩
  obtain ⟨q, rfl, hq⟩ := getVA_place hg (by decide)
  have HG := Lib.hid hg
  have HS := Lib.hid (guess_ww hg)
  rw [hn] at hq
  obtain ⟨a', c', rs, hs⟩ := sl_from (lo := q) HR.out HN.out h0 hq
  have RS := Lib.hid rs
  have HL : Hid (((1 :: t).drop q).length = n - q) := Lib.hid (by rw [List.length_drop, hn])
  clear hg hr hn rs
  go_enter Try.func25, Try.ntmps25
  go_wp2_with (go_at_call 33; refine (getvar_any _ n c (1 :: t) _ _ (row_two HR.out _ _) HN.out hlen (by omega) (by omega)).mono ?_; rw [HG.out]; unfold Got3; rintro e w1 ⟨rfl, rfl⟩)
  refine bodyPost_ret (results_c rfl rfl (rec_two _ _ _ _) Try.underlying24 rfl (by kernel_rfl)) rfl ?_
  refine ⟨⟨1, o, 0, (1 :: t).drop q, []⟩, a', c', ?_, row_two RS.out _ _, HS.out, by rw [HL.out]; omega, by simp, below_two _ _ _⟩
  unfold evV; simp only; rw [HL.out]
set_option maxHeartbeats 1000000 in
theorem guess_2 (t : List UInt8) (hr : Row w ad c (2 :: t)) (hn : (2 :: t).length = n) (hlen : n ≤ 100000) :
    Calls Try.prog 25 #[.slice ad n c] w fun e w' => Guessed (2 :: t) n w e w' := by
  have HR := Lib.hid hr
  have HN := Lib.hid hn
  have h0 : 0 < n := by simp at hn; omega
  obtain ⟨b, off, rfl, hc⟩ := hr.at (by simp)
  have hcell : (w.alloc (.cells #[.int .i64 0, .int .i64 0, .int .i64 0, .slice none 0 0, .string ⟨#[]⟩] 24)).cell? ⟨b, off, none⟩ = some (.int .u8 2) := by
    have h1 := hc 0 _ rfl
    rw [Nat.add_zero] at h1
    rw [((Below.refl w.heap.size w).alloc (Nat.le_refl _) _).cell (World.block_lt_of_cell? w _ h1)]; exact h1
  have hn0 : ((n : Int) == 0) = false := by simp; omega
  clear hc
  obtain ⟨o, p, z, hg⟩ : ∃ o p z, getVA (2 :: t) 1 = (o, p, z) := ⟨_, _, _, rfl⟩
  obtain ⟨q, rfl, hq⟩ := getVA_place hg (by decide)
  obtain ⟨x, y, z2, hg2⟩ : ∃ x y z2, getVA (2 :: t) (q : Nat) = (x, y, z2) := ⟨_, _, _, rfl⟩
  have HG := Lib.hid hg
  have HG2 := Lib.hid hg2
  have HS := Lib.hid (guess_dd (by decide) hg hg2)
  rw [hn] at hq
  clear hg hg2 hr hn
  go_enter Try.func25, Try.ntmps25
  go_wp2_with (first
    | (go_at_call 33; refine (getvar_any _ n c (2 :: t) _ _ (row_two HR.out _ _) HN.out hlen (by omega) (by omega)).mono ?_; rw [HG.out]; unfold Got3; rintro e w1 ⟨rfl, rfl⟩)
    | (go_at_call 33; refine (getvar_any _ n c (2 :: t) _ _ (row_two HR.out _ _) HN.out hlen (by omega) (by omega)).mono ?_; rw [HG2.out]; unfold Got3; rintro e w1 ⟨rfl, rfl⟩)
    )
  refine bodyPost_ret (results_c rfl rfl (rec_two _ _ _ _) Try.underlying24 rfl (by kernel_rfl)) rfl ?_
  exact ⟨⟨2, o, x, [], []⟩, none, 0, rfl, Row.none _, HS.out, Nat.zero_le _, Nat.zero_le _, below_two _ _ _⟩
set_option maxHeartbeats 1000000 in
theorem guess_3 (t : List UInt8) (hr : Row w ad c (3 :: t)) (hn : (3 :: t).length = n) (hlen : n ≤ 100000) :
    Calls Try.prog 25 #[.slice ad n c] w fun e w' => Guessed (3 :: t) n w e w' := by
  have HR := Lib.hid hr
  have HN := Lib.hid hn
  have h0 : 0 < n := by simp at hn; omega
  obtain ⟨b, off, rfl, hc⟩ := hr.at (by simp)
  have hcell : (w.alloc (.cells #[.int .i64 0, .int .i64 0, .int .i64 0, .slice none 0 0, .string ⟨#[]⟩] 24)).cell? ⟨b, off, none⟩ = some (.int .u8 3) := by
    have h1 := hc 0 _ rfl
    rw [Nat.add_zero] at h1
    rw [((Below.refl w.heap.size w).alloc (Nat.le_refl _) _).cell (World.block_lt_of_cell? w _ h1)]; exact h1
  have hn0 : ((n : Int) == 0) = false := by simp; omega
  clear hc
  obtain ⟨o, p, z, hg⟩ : ∃ o p z, getVA (3 :: t) 1 = (o, p, z) := ⟨_, _, _, rfl⟩
  obtain ⟨q, rfl, hq⟩ := getVA_place hg (by decide)
  obtain ⟨x, y, z2, hg2⟩ : ∃ x y z2, getVA (3 :: t) (q : Nat) = (x, y, z2) := ⟨_, _, _, rfl⟩
  have HG := Lib.hid hg
  have HG2 := Lib.hid hg2
  have HS := Lib.hid (guess_dd (by decide) hg hg2)
  rw [hn] at hq
  clear hg hg2 hr hn
  go_enter Try.func25, Try.ntmps25
  go_wp2_with (first
    | (go_at_call 33; refine (getvar_any _ n c (3 :: t) _ _ (row_two HR.out _ _) HN.out hlen (by omega) (by omega)).mono ?_; rw [HG.out]; unfold Got3; rintro e w1 ⟨rfl, rfl⟩)
    | (go_at_call 33; refine (getvar_any _ n c (3 :: t) _ _ (row_two HR.out _ _) HN.out hlen (by omega) (by omega)).mono ?_; rw [HG2.out]; unfold Got3; rintro e w1 ⟨rfl, rfl⟩)
    )
  refine bodyPost_ret (results_c rfl rfl (rec_two _ _ _ _) Try.underlying24 rfl (by kernel_rfl)) rfl ?_
  exact ⟨⟨3, o, x, [], []⟩, none, 0, rfl, Row.none _, HS.out, Nat.zero_le _, Nat.zero_le _, below_two _ _ _⟩
set_option maxHeartbeats 1000000 in
theorem guess_4 (t : List UInt8) (hr : Row w ad c (4 :: t)) (hn : (4 :: t).length = n) (hlen : n ≤ 100000) :
    Calls Try.prog 25 #[.slice ad n c] w fun e w' => Guessed (4 :: t) n w e w' := by
  have HR := Lib.hid hr
  have HN := Lib.hid hn
  have h0 : 0 < n := by simp at hn; omega
  obtain ⟨b, off, rfl, hc⟩ := hr.at (by simp)
  have hcell : (w.alloc (.cells #[.int .i64 0, .int .i64 0, .int .i64 0, .slice none 0 0, .string ⟨#[]⟩] 24)).cell? ⟨b, off, none⟩ = some (.int .u8 4) := by
    have h1 := hc 0 _ rfl
    rw [Nat.add_zero] at h1
    rw [((Below.refl w.heap.size w).alloc (Nat.le_refl _) _).cell (World.block_lt_of_cell? w _ h1)]; exact h1
  have hn0 : ((n : Int) == 0) = false := by simp; omega
  clear hc
  obtain ⟨x, y, z, hg⟩ : ∃ x y z, getVA (4 :: t) 1 = (x, y, z) := ⟨_, _, _, rfl⟩
  have HG := Lib.hid hg
  have HS := Lib.hid (guess_rr hg)
  clear hg hr hn
  go_enter Try.func25, Try.ntmps25
  go_wp2_with (go_at_call 33; refine (getvar_any _ n c (4 :: t) _ _ (row_two HR.out _ _) HN.out hlen (by omega) (by omega)).mono ?_; rw [HG.out]; unfold Got3; rintro e w1 ⟨rfl, rfl⟩)
  refine bodyPost_ret (results_c rfl rfl (rec_two _ _ _ _) Try.underlying24 rfl (by kernel_rfl)) rfl ?_
  exact ⟨⟨4, 0, x, [], []⟩, none, 0, rfl, Row.none _, HS.out, Nat.zero_le _, Nat.zero_le _, below_two _ _ _⟩
set_option maxHeartbeats 1000000 in
theorem guess_5 (t : List UInt8) (hr : Row w ad c (5 :: t)) (hn : (5 :: t).length = n) (hlen : n ≤ 100000) :
    Calls Try.prog 25 #[.slice ad n c] w fun e w' => Guessed (5 :: t) n w e w' := by
  have HR := Lib.hid hr
  have HN := Lib.hid hn
  have h0 : 0 < n := by simp at hn; omega
  obtain ⟨b, off, rfl, hc⟩ := hr.at (by simp)
  have hcell : (w.alloc (.cells #[.int .i64 0, .int .i64 0, .int .i64 0, .slice none 0 0, .string ⟨#[]⟩] 24)).cell? ⟨b, off, none⟩ = some (.int .u8 5) := by
    have h1 := hc 0 _ rfl
    rw [Nat.add_zero] at h1
    rw [((Below.refl w.heap.size w).alloc (Nat.le_refl _) _).cell (World.block_lt_of_cell? w _ h1)]; exact h1
  have hn0 : ((n : Int) == 0) = false := by simp; omega
  clear hc
  obtain ⟨a', c', rs, hs⟩ := sl_from (lo := 1) HR.out HN.out h0 (by omega)
  have hs : ∀ W, (Instr.slice 22 (.slice (some ⟨b, off, none⟩) n c) (some (.int .i64 1)) none none).run Try.prog W = .ok (.slice a' (n - 1) c') W := hs
  have HS : Hid (Guess (5 :: t) ⟨5, 0, 0, [], t⟩) := Lib.hid (guess_nn (u := 5) (by decide))
  have HL : Hid (t.length = n - 1) := Lib.hid (by simp at hn; omega)
  have hcv : ∀ x y, (convert 22 9 (.slice a' (n - 1) c')).run Try.prog ((w.alloc x).alloc y) = .ok (.string ⟨t.toArray⟩) ((w.alloc x).alloc y) := fun x y => conv_row_n (row_two rs x y) HL.out
  obtain ⟨S, hS⟩ : ∃ S : ByteArray, ⟨t.toArray⟩ = S := ⟨_, rfl⟩
  have HSS := Lib.hid hS
  rw [hS] at hcv
  clear hr hn rs hS
  go_enter Try.func25, Try.ntmps25
  go_wp2_with fail
  refine bodyPost_ret (results_c rfl rfl (rec_two _ _ _ _) Try.underlying24 rfl (by kernel_rfl)) rfl ?_
  refine ⟨⟨5, 0, 0, [], t⟩, none, 0, ?_, Row.none _, HS.out, Nat.zero_le _, by have := HL.out; simp only; omega, below_two _ _ _⟩
  unfold evV; simp only; rw [HSS.out]; rfl
set_option maxHeartbeats 1000000 in
theorem guess_6 (t : List UInt8) (hr : Row w ad c (6 :: t)) (hn : (6 :: t).length = n) (hlen : n ≤ 100000) :
    Calls Try.prog 25 #[.slice ad n c] w fun e w' => Guessed (6 :: t) n w e w' := by
  have HR := Lib.hid hr
  have HN := Lib.hid hn
  have h0 : 0 < n := by simp at hn; omega
  obtain ⟨b, off, rfl, hc⟩ := hr.at (by simp)
  have hcell : (w.alloc (.cells #[.int .i64 0, .int .i64 0, .int .i64 0, .slice none 0 0, .string ⟨#[]⟩] 24)).cell? ⟨b, off, none⟩ = some (.int .u8 6) := by
    have h1 := hc 0 _ rfl
    rw [Nat.add_zero] at h1
    rw [((Below.refl w.heap.size w).alloc (Nat.le_refl _) _).cell (World.block_lt_of_cell? w _ h1)]; exact h1
  have hn0 : ((n : Int) == 0) = false := by simp; omega
  clear hc
  obtain ⟨a', c', rs, hs⟩ := sl_from (lo := 1) HR.out HN.out h0 (by omega)
  have hs : ∀ W, (Instr.slice 22 (.slice (some ⟨b, off, none⟩) n c) (some (.int .i64 1)) none none).run Try.prog W = .ok (.slice a' (n - 1) c') W := hs
  have HS : Hid (Guess (6 :: t) ⟨6, 0, 0, [], t⟩) := Lib.hid (guess_nn (u := 6) (by decide))
  have HL : Hid (t.length = n - 1) := Lib.hid (by simp at hn; omega)
  have hcv : ∀ x y, (convert 22 9 (.slice a' (n - 1) c')).run Try.prog ((w.alloc x).alloc y) = .ok (.string ⟨t.toArray⟩) ((w.alloc x).alloc y) := fun x y => conv_row_n (row_two rs x y) HL.out
  obtain ⟨S, hS⟩ : ∃ S : ByteArray, ⟨t.toArray⟩ = S := ⟨_, rfl⟩
  have HSS := Lib.hid hS
  rw [hS] at hcv
  clear hr hn rs hS
  go_enter Try.func25, Try.ntmps25
  go_wp2_with fail
  refine bodyPost_ret (results_c rfl rfl (rec_two _ _ _ _) Try.underlying24 rfl (by kernel_rfl)) rfl ?_
  refine ⟨⟨6, 0, 0, [], t⟩, none, 0, ?_, Row.none _, HS.out, Nat.zero_le _, by have := HL.out; simp only; omega, below_two _ _ _⟩
  unfold evV; simp only; rw [HSS.out]; rfl
set_option maxHeartbeats 1000000 in
theorem guess_7 (t : List UInt8) (hr : Row w ad c (7 :: t)) (hn : (7 :: t).length = n) (hlen : n ≤ 100000) :
    Calls Try.prog 25 #[.slice ad n c] w fun e w' => Guessed (7 :: t) n w e w' := by
  have HR := Lib.hid hr
  have HN := Lib.hid hn
  have h0 : 0 < n := by simp at hn; omega
  obtain ⟨b, off, rfl, hc⟩ := hr.at (by simp)
  have hcell : (w.alloc (.cells #[.int .i64 0, .int .i64 0, .int .i64 0, .slice none 0 0, .string ⟨#[]⟩] 24)).cell? ⟨b, off, none⟩ = some (.int .u8 7) := by
    have h1 := hc 0 _ rfl
    rw [Nat.add_zero] at h1
    rw [((Below.refl w.heap.size w).alloc (Nat.le_refl _) _).cell (World.block_lt_of_cell? w _ h1)]; exact h1
  have hn0 : ((n : Int) == 0) = false := by simp; omega
  clear hc
  obtain ⟨a', c', rs, hs⟩ := sl_from (lo := 1) HR.out HN.out h0 (by omega)
  have hs : ∀ W, (Instr.slice 22 (.slice (some ⟨b, off, none⟩) n c) (some (.int .i64 1)) none none).run Try.prog W = .ok (.slice a' (n - 1) c') W := hs
  have HS : Hid (Guess (7 :: t) ⟨7, 0, 0, [], t⟩) := Lib.hid (guess_nn (u := 7) (by decide))
  have HL : Hid (t.length = n - 1) := Lib.hid (by simp at hn; omega)
  have hcv : ∀ x y, (convert 22 9 (.slice a' (n - 1) c')).run Try.prog ((w.alloc x).alloc y) = .ok (.string ⟨t.toArray⟩) ((w.alloc x).alloc y) := fun x y => conv_row_n (row_two rs x y) HL.out
  obtain ⟨S, hS⟩ : ∃ S : ByteArray, ⟨t.toArray⟩ = S := ⟨_, rfl⟩
  have HSS := Lib.hid hS
  rw [hS] at hcv
  clear hr hn rs hS
  go_enter Try.func25, Try.ntmps25
  go_wp2_with fail
  refine bodyPost_ret (results_c rfl rfl (rec_two _ _ _ _) Try.underlying24 rfl (by kernel_rfl)) rfl ?_
  refine ⟨⟨7, 0, 0, [], t⟩, none, 0, ?_, Row.none _, HS.out, Nat.zero_le _, by have := HL.out; simp only; omega, below_two _ _ _⟩
  unfold evV; simp only; rw [HSS.out]; rfl
set_option maxHeartbeats 1000000 in
theorem guess_x (t : List UInt8) (u : UInt8) (hu : u.toNat < 1 ∨ 7 < u.toNat) (hr : Row w ad c (u :: t)) (hn : (u :: t).length = n) (hlen : n ≤ 100000) :
    Calls Try.prog 25 #[.slice ad n c] w fun e w' => Guessed (u :: t) n w e w' := by
  have HR := Lib.hid hr
  have HN := Lib.hid hn
  have h0 : 0 < n := by simp at hn; omega
  obtain ⟨b, off, rfl, hc⟩ := hr.at (by simp)
  have hcell : (w.alloc (.cells #[.int .i64 0, .int .i64 0, .int .i64 0, .slice none 0 0, .string ⟨#[]⟩] 24)).cell? ⟨b, off, none⟩ = some (.int .u8 (u.toNat : Nat)) := by
    have h1 := hc 0 _ rfl
    rw [Nat.add_zero] at h1
    rw [((Below.refl w.heap.size w).alloc (Nat.le_refl _) _).cell (World.block_lt_of_cell? w _ h1)]; exact h1
  have hn0 : ((n : Int) == 0) = false := by simp; omega
  clear hc
  have HS := Lib.hid (guess_xx (t := t) hu)
  have hu2 : u.toNat < 256 := u.toNat_lt
  generalize hk : u.toNat = k at *
  have t1 : ((k : Int) == 1) = false := by simp; omega
  have t2 : ((k : Int) == 2) = false := by simp; omega
  have t3 : ((k : Int) == 3) = false := by simp; omega
  have t4 : ((k : Int) == 4) = false := by simp; omega
  have t5 : ((k : Int) == 5) = false := by simp; omega
  have t6 : ((k : Int) == 6) = false := by simp; omega
  have t7 : ((k : Int) == 7) = false := by simp; omega
  clear hr hn hu hk
  go_enter Try.func25, Try.ntmps25
  go_wp2_with fail
  refine bodyPost_ret (results_c rfl rfl (rec_two _ _ _ _) Try.underlying24 rfl (by kernel_rfl)) rfl ?_
  exact ⟨⟨(k : Nat), 0, 0, [], []⟩, none, 0, rfl, Row.none _, HS.out, Nat.zero_le _, Nat.zero_le _, below_two _ _ _⟩
theorem guess_any (hr : Row w ad c l) (hn : l.length = n) (hlen : n ≤ 100000) :
    Calls Try.prog 25 #[.slice ad n c] w fun e w' => Guessed l n w e w' := by
  match l, hn, hr with
  | [], hn, hr => exact guess_0 ad n c w hr hn.symm
  | u :: t, hn, hr =>
    by_cases hu : u.toNat < 1 ∨ 7 < u.toNat
    · exact guess_x ad n c w t u hu hr hn hlen
    · rcases (show u.toNat = 1 ∨ u.toNat = 2 ∨ u.toNat = 3 ∨ u.toNat = 4 ∨ u.toNat = 5 ∨ u.toNat = 6 ∨ u.toNat = 7 by omega) with h | h | h | h | h | h | h
      · obtain rfl : u = 1 := UInt8.toNat_inj.1 h
        exact guess_1 ad n c w t hr hn hlen
      · obtain rfl : u = 2 := UInt8.toNat_inj.1 h
        exact guess_2 ad n c w t hr hn hlen
      · obtain rfl : u = 3 := UInt8.toNat_inj.1 h
        exact guess_3 ad n c w t hr hn hlen
      · obtain rfl : u = 4 := UInt8.toNat_inj.1 h
        exact guess_4 ad n c w t hr hn hlen
      · obtain rfl : u = 5 := UInt8.toNat_inj.1 h
        exact guess_5 ad n c w t hr hn hlen
      · obtain rfl : u = 6 := UInt8.toNat_inj.1 h
        exact guess_6 ad n c w t hr hn hlen
      · obtain rfl : u = 7 := UInt8.toNat_inj.1 h
        exact guess_7 ad n c w t hr hn hlen
end
end Go.Proofs.Ytnllopfhfijjbaa
