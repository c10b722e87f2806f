/- Ranging over a store's maps: which keys came; how many deeds are wet. -/
import Derived.Test.YtgjdabneodkmpaaStE
import Derived.Maps.RangeWalk
namespace Go.Proofs.Ytgjdabneodkmpaa
open Go.RowKit
set_option linter.unusedVariables false

set_option maxRecDepth 20000 in
/-- What reads as a key is one. -/
theorem keyOf_inv {v : Value} {l : Lit} (h : keyOf Try.prog 27 v = some l) : ∃ k : K4, v = kv k ∧ k.ok ∧ l = kl k := by
  have h0 := h
  unfold keyOf at h
  rw [Try.underlying27] at h
  simp only [keyType_key, Bool.true_and] at h
  cases hf : v.formed Try.prog 27 with
  | false => rw [hf] at h; simp at h
  | true =>
    rw [hf, if_pos rfl] at h
    unfold Value.formed at hf
    cases v <;> simp only [Try.underlying27] at hf <;> try (simp at hf; done)
    rename_i cs
    simp only [cells_key, beq_iff_eq] at hf
    obtain ⟨x0, x1, x2, x3, rfl⟩ : ∃ x0 x1 x2 x3, cs = #[x0, x1, x2, x3] := by
      obtain ⟨l⟩ := cs
      match l, hf with
      | [x0, x1, x2, x3], _ => exact ⟨x0, x1, x2, x3, rfl⟩
    have hs : Try.prog.types.size = Try.prog.types.size - 1 + 1 := by
      have : 0 < Try.prog.types.size := of_decide_eq_true (by kernel_rfl)
      omega
    rw [hs] at h
    unfold Program.keyLits at h
    rw [Try.underlying27] at h
    simp only [Value.cells, cells_key, List.length_cons, List.length_nil] at h
    rw [if_pos (by simp)] at h
    simp only [List.mapM_cons, List.mapM_nil, cells_i, List.drop_zero, List.drop_succ_cons, List.take_succ_cons, List.take_zero] at h
    have one : ∀ (x : Value) (d : Nat) ls, Try.prog.keyLits (d + 1) 3 [x] = some ls → ∃ n, x = .int .i64 n ∧ (Lit.int .i64 n).wf = true := by
      intro x d ls hx
      unfold Program.keyLits at hx
      rw [Try.underlying3] at hx
      cases x <;> simp at hx
      obtain ⟨⟨rfl, hw⟩, _⟩ := hx
      exact ⟨_, rfl, hw⟩
    cases e0 : Try.prog.keyLits (Try.prog.types.size - 1 + 1) 3 [x0] with
    | none => rw [e0] at h; simp at h
    | some l0 =>
      cases e1 : Try.prog.keyLits (Try.prog.types.size - 1 + 1) 3 [x1] with
      | none => rw [e0, e1] at h; simp at h
      | some l1 =>
        cases e2 : Try.prog.keyLits (Try.prog.types.size - 1 + 1) 3 [x2] with
        | none => rw [e0, e1, e2] at h; simp at h
        | some l2 =>
          cases e3 : Try.prog.keyLits (Try.prog.types.size - 1 + 1) 3 [x3] with
          | none => rw [e0, e1, e2, e3] at h; simp at h
          | some l3 =>
            obtain ⟨n0, rfl, w0⟩ := one _ _ _ e0
            obtain ⟨n1, rfl, w1⟩ := one _ _ _ e1
            obtain ⟨n2, rfl, w2⟩ := one _ _ _ e2
            obtain ⟨n3, rfl, w3⟩ := one _ _ _ e3
            refine ⟨⟨n0, n1, n2, n3⟩, rfl, ⟨w0, w1, w2, w3⟩, ?_⟩
            have := keyOf_kv (k := ⟨n0, n1, n2, n3⟩) ⟨w0, w1, w2, w3⟩
            rw [show kv ⟨n0, n1, n2, n3⟩ = .agg #[.int .i64 n0, .int .i64 n1, .int .i64 n2, .int .i64 n3] from rfl, h0] at this
            exact Option.some.inj this

/-- Which keys have come: no key twice; a key just where the map has it and it isn't to come any more. -/
def Coll (pm : K4 → Option Nat) (left : Lit → Bool) (ss : List K4) : Prop := ss.Nodup ∧ (∀ k ∈ ss, k.ok) ∧ ∀ k, k.ok → (k ∈ ss ↔ ((pm k).isSome = true ∧ left (kl k) = false))
theorem Coll.start {D : DataW Value} {pm : K4 → Option Nat} {n : Nat} (h : PD D pm n) : Coll pm (Go.Maps.has D) [] := by
  refine ⟨by simp, by simp, fun k hk => ?_⟩
  rw [h.has k hk]
  cases (pm k).isSome <;> simp
theorem Coll.step {D : DataW Value} {pm : K4 → Option Nat} {n : Nat} (h : PD D pm n) {left : Lit → Bool} {ss : List K4} (hc : Coll pm left ss) {k : K4} (hk : k.ok) (hl : left (kl k) = true) {y : DataW Value} (hat : ∀ zd, D.atKey (kl k) zd = y) :
    Coll pm (fun z => left z && !z.sameKey (kl k)) (ss ++ [k]) ∧ (pm k).isSome = true := by
  have hp : (pm k).isSome = true := by rw [← h.has k hk]; exact Go.Maps.has_true_of_atKey hat
  refine ⟨⟨?_, ?_, fun k2 hk2 => ?_⟩, hp⟩
  · refine List.nodup_append.2 ⟨hc.1, by simp, fun a ha b hb => ?_⟩
    simp at hb
    subst hb
    rintro rfl
    have := ((hc.2.2 a hk).1 ha).2
    rw [hl] at this; cases this
  · intro k2 hk2
    rcases List.mem_append.1 hk2 with h1 | h1
    · exact hc.2.1 k2 h1
    · simp at h1; rw [h1]; exact hk
  · rw [List.mem_append, hc.2.2 k2 hk2]
    by_cases e : k2 = k
    · subst e
      simp [hp, WideAt.sameKey_self (keyed.key (keyOf_kv hk))]
    · have : (kl k2).sameKey (kl k) = false := Go.Maps.sameKey_ne (fun e2 => e (kl_inj hk2 hk e2))
      simp [e, this]
theorem Coll.perm {pm : K4 → Option Nat} {left : Lit → Bool} {ss : List K4} (hc : Coll pm left ss) (h0 : ∀ l, left l = false) {ks : List K4} (hnd : ks.Nodup) (hks : ∀ k, k ∈ ks ↔ ((pm k).isSome = true ∧ k.ok)) : ss.Perm ks := by
  refine (List.perm_ext_iff_of_nodup hc.1 hnd).2 fun k => ?_
  rw [hks]
  constructor
  · intro h
    have hk := hc.2.1 k h
    exact ⟨((hc.2.2 k hk).1 h).1, hk⟩
  · rintro ⟨h1, hk⟩
    exact (hc.2.2 k hk).2 ⟨h1, h0 _⟩

/-- An entry of the map: its key is one, its block the one that pm names. -/
theorem entry_came {D : DataW Value} {pm : K4 → Option Nat} {n : Nat} (hD : PD D pm n) {x : K4} {c : Option Addr} {kl0 : Lit} {yd : DataW Value} {yp : List MemPlace} (hkey : keyOf Try.prog 27 (kv x) = some kl0) (hv : ptrE (.pointer c) = some (yd, yp)) (hat : ∀ zd, D.atKey kl0 zd = yd) :
    x.ok ∧ kl0 = kl x ∧ ∃ b, pm x = some b ∧ c = some ⟨b, 0, .none⟩ := by
  obtain ⟨k, hk, hok, hkl⟩ := keyOf_inv hkey
  obtain rfl := kv_inj hk
  subst hkl
  refine ⟨hok, rfl, ?_⟩
  have hp : (pm x).isSome = true := by rw [← hD.has x hok]; exact Go.Maps.has_true_of_atKey hat
  have h1 := hD.at_ x hok
  rw [hat] at h1
  simp only [ptrE, Option.some.injEq, Prod.mk.injEq] at hv
  rw [← hv.1] at h1
  cases hx : pm x with
  | none => rw [hx] at hp; cases hp
  | some b =>
    rw [hx] at h1
    simp only [ptrV, Option.map, DataW.held.injEq, Value.pointer.injEq] at h1
    exact ⟨b, rfl, h1⟩
theorem PpAt.of_some {w : World} {r : Nat → Role} {k : K4} {x : Nat} {o : Option Past} (h : PpAt w r k (some x) o) : ∃ p dp dv, o = some p ∧ PaAt w r k x dp dv p := by
  cases o with
  | none => exact h.elim
  | some p => obtain ⟨dp, dv, h⟩ := h; exact ⟨p, dp, dv, rfl, h⟩

/-! ### how many are wet -/
def St.lenOf (S : St) (k : K4) : Nat := match S.wet k with
  | some p => p.deeds.length
  | .none => 0
def St.wetN (S : St) : Nat := (S.wks.map S.lenOf).sum
theorem sum_perm {l l' : List Nat} (h : l.Perm l') : l.sum = l'.sum := h.sum_nat
theorem sum_le_of {α : Type} {f : α → Nat} {M : Nat} : ∀ (l : List α), (∀ k, f k ≤ M) → (l.map f).sum ≤ l.length * M
  | [], _ => by simp
  | x :: r, h => by
    have := sum_le_of r h
    have := h x
    simp only [List.map_cons, List.sum_cons, List.length_cons, Nat.add_mul, Nat.one_mul]
    omega
theorem DRow.shape {w : World} {r : Nat → Role} {dv : Value} {ds : List Deed} (h : DRow w r dv ds) : ∃ a cap, dv = .slice a ds.length cap := by
  obtain ⟨vs, _, ho, _⟩ := h
  rcases ho.2 with ⟨hv, hn⟩ | ⟨g, cap, cur, hv, _⟩
  · exact ⟨.none, 0, by rw [hv, hn]⟩
  · exact ⟨_, cap, hv⟩
theorem ranges_keep {w w' : World} {H : Type} {P : Program} {k : TypeId} {R : Value → Option (DataW H × List MemPlace)} {b r n : Nat} {D : DataW H} {left : Lit → Bool} {cnt : Nat} (h : w.ranges P k R b r n D left cnt) (hb : w'.heap[b]? = w.heap[b]?) (hr : w'.heap[r]? = w.heap[r]?) : w'.ranges P k R b r n D left cnt := by
  obtain ⟨es, clock, since, seen, c0, h1, h2, h3, h4, h5, h6⟩ := h
  exact ⟨es, clock, since, seen, c0, hb.trans h1, h2, h3, h4, hr.trans h5, h6⟩

set_option maxRecDepth 20000 in
set_option maxHeartbeats 1000000 in
theorem wet_any (w : World) (b : Nat) (g : Gh) (S : St) (h : Sto w b g S) (hS : S.WF) (m : Nat) (hsm : S.Sm m) (hm : m ≤ 100000) :
    Calls Try.prog 27 #[.pointer (some ⟨b, 0, .none⟩)] w fun e w' => e = .returned (.int .i64 S.wetN) ∧ Below w.heap.size w w' := by
  have c3 : w.cell? ⟨b, 3, .none⟩ = some g.wv := cell_of_block h.heap rfl
  obtain ⟨D, hD, hmap⟩ := h.wm
  rcases hmap with ⟨hn, rfl⟩ | ⟨mb, hn, hown⟩
  · rw [hn] at c3
    have hz : S.wetN = 0 := by
      have := hD.size
      have hl : S.wks = [] := List.length_eq_zero_iff.1 this.symm
      unfold St.wetN
      rw [hl]; rfl
    have HZ := Lib.hid hz
    have hrg := run_range_nilMap (P := Try.prog) w 62 _ _ Try.underlying62
    have hnx : ∀ ty, (Instr.next (.pointer (some ⟨w.heap.size, 0, none⟩)) false ty).run Try.prog (w.alloc (.mapIter none 0 #[] 0)) = _ := fun ty => run_next_nilMap _ ty 0 0 #[]
    clear h hz hD
    go_enter Try.func27, Try.ntmps27
    go_wp2
    refine wp_loop_rounds 1 ?_
    rw [rounds_succ]
    go_wp2
    go_ret
    refine ⟨?_, (Below.refl _ _).alloc (Nat.le_refl _) _⟩
    rw [HZ.out]; rfl
  · rw [hn] at c3
    have H := Lib.hid h
    have HD := Lib.hid hD
    have HS := Lib.hid hS
    have HSM := Lib.hid hsm
    clear h hD hS hsm
    go_enter Try.func27, Try.ntmps27
    go_wp2_with (first
      | (at_range; refine wpList_range_own _ rfl _ 62 rfl 27 80 keyed Try.underlying62 _ mb _ _ rfl hown ?_; intro w0 hrg0 hg0 hs0)
      | go_in)
    go_frame
    go_loopw [3] (fun n wr => ∃ (left : Lit → Bool) (cnt : Nat) (ss : List K4), wr.ranges Try.prog 27 ptrE mb w.heap.size S.wks.length D left cnt ∧ ss.length + cnt ≤ S.wks.length ∧ Coll g.pw left ss ∧ n = .int .i64 ((ss.map S.lenOf).sum : Nat) ∧ Below w.heap.size w wr)
      (fun _ wr => wr.rangeLeft mb w.heap.size)
    case atStart =>
      exact ⟨_, _, [], hrg0, by rw [HD.out.size]; simp, Coll.start HD.out, rfl, (Below.refl _ _).grown hg0 (Nat.le_refl _) (fun j hj => by cases hj)⟩
    case round =>
      obtain ⟨left, cnt, ss, hrg, hcs, hC, rfl, hbw⟩ := hrel
      have HC := Lib.hid hC
      have HBW := Lib.hid hbw
      clear hC hbw
      go_wp2_with (first
        | (at_next; refine wpList_next_ranges _ rfl _ rfl 27 keyed ptrE kv (fun p : Option Addr => Value.pointer p) (fun key l hk => by obtain ⟨k, h, _⟩ := keyOf_inv hk; exact ⟨k, h⟩) (fun v y hv => by cases v <;> simp [ptrE] at hv; exact ⟨_, rfl⟩) mb w.heap.size S.wks.length _ _ _ rfl hrg ?_ ?_)
        | go_in)
      · intro hc0 hl0
        have hp : (ss.map S.lenOf).sum = S.wetN := by
          unfold St.wetN
          exact sum_perm ((HC.out.perm hl0 HS.out.nd.2 (fun k => by
            rw [HS.out.wks k]
            constructor
            · rintro ⟨h1, h2⟩
              refine ⟨?_, h2⟩
              have := H.out.wet k h2
              cases hS : S.wet k with
              | none => rw [hS] at h1; cases h1
              | some p =>
                rw [hS] at this
                cases hw : g.pw k with
                | none => rw [hw] at this; exact this.elim
                | some x => rfl
            · rintro ⟨h1, h2⟩
              refine ⟨?_, h2⟩
              have := H.out.wet k h2
              cases hS : S.wet k with
              | some p => rfl
              | none =>
                rw [hS] at this
                cases hw : g.pw k with
                | none => rw [hw] at h1; cases h1
                | some x => rw [hw] at this; exact this.elim)).map S.lenOf)
        have HP := Lib.hid hp
        clear hp
        go_wp2
        go_ret
        refine ⟨?_, HBW.out⟩
        rw [HP.out]; rfl
      · intro x c kl0 yd yp w2 cnt2 hkey hlk hv hat hrg2 hlt hg2 hs2 hen
        obtain ⟨hok, rfl, px, hpx, rfl⟩ := entry_came HD.out hkey hv hat
        have hw2 := (H.out.later (HBW.out.grown hg2 HBW.out.size (fun j hj => by cases hj; exact Nat.le_refl _))).wet x hok
        rw [hpx] at hw2
        obtain ⟨p, dp, dv, hSx, hpa⟩ := hw2.of_some
        obtain ⟨aa, ca, rfl⟩ := hpa.row.shape
        have hln : S.lenOf x = p.deeds.length := by unfold St.lenOf; rw [hSx]
        obtain ⟨len, hlen⟩ : ∃ len, p.deeds.length = len := ⟨_, rfl⟩
        have hb100 : len ≤ 100000 := by have := HSM.out.row x p hSx; omega
        have c1 : w2.cell? ⟨px, 1, .none⟩ = some (.slice aa len ca) := hlen ▸ cell_of_block hpa.heap rfl
        obtain ⟨hC2, _⟩ := Coll.step HD.out HC.out hok hlk hat
        have hsum : ((ss ++ [x]).map S.lenOf).sum = (ss.map S.lenOf).sum + len := by rw [List.map_append, List.sum_append, ← hlen]; simp [hln]
        have hsb : (ss.map S.lenOf).sum ≤ 10000000000 := by
          have h1 := sum_le_of (f := S.lenOf) (M := 100000) ss (fun k => by
            unfold St.lenOf
            cases hSk : S.wet k with
            | none => simp
            | some p2 => have := HSM.out.row k p2 hSk; simp only; omega)
          have := HSM.out.wks
          omega
        obtain ⟨sm, hsm2⟩ : ∃ sm, (ss.map S.lenOf).sum = sm := ⟨_, rfl⟩
        rw [hsm2] at hsum hsb ⊢
        have HC2 := Lib.hid hC2
        have HSU := Lib.hid hsum
        have HB2 := Lib.hid (HBW.out.grown hg2 HBW.out.size (fun j hj => by cases hj; exact Nat.le_refl _))
        clear hs2 hv hat hkey hw2 hpa hSx hln hlen hC2 hsum hg2
        go_wp2
        go_roundw
        case rel => exact ⟨_, cnt2, ss ++ [x], hrg2, by simp; omega, HC2.out, by rw [HSU.out]; push_cast; rfl, HB2.out⟩
        case measure => rw [hrg2.left_eq, hrg.left_eq]; exact hlt
end Go.Proofs.Ytgjdabneodkmpaa
