/- Chains: which tags may be, which chains. -/
import Derived.Test.YtpeamfndanbhiaaTag
import Derived.Test.YtpeamfndanbhiaaPut
import Derived.Deep.QuietTactic
namespace Go.Proofs.Ytpeamfndanbhiaa
open Go.RowKit Go.Proofs
set_option linter.unusedVariables false
set_option linter.unusedSimpArgs false

theorem btw_iff {n f l : Int} (hn : I64 n) (hf : 0 ≤ f) (hfl : f ≤ l) (hl : l ≤ 1099511627776) : decide (IntKind.u64.wrap (wrap64 (n - f)) ≤ IntKind.u64.wrap (wrap64 (l - f))) = (decide (f ≤ n) && decide (n ≤ l)) := by
  unfold I64 at hn
  rw [wrap_u64', wrap_u64', ← Bool.decide_and]
  unfold wrap64
  refine decide_eq_decide.2 ?_
  constructor
  · intro h; omega
  · intro h; omega
set_option maxHeartbeats 800000 in
theorem between_any (n f l : Int) (w : World) (hn : I64 n) (hf : 0 ≤ f) (hfl : f ≤ l) (hl : l ≤ 1099511627776) :
    Calls Try.prog 46 #[.int .i64 n, .int .i64 f, .int .i64 l] w fun e w' => e = .returned (.bool (decide (f ≤ n) && decide (n ≤ l))) ∧ w = w' := by
  have H := Lib.hid (btw_iff hn hf hfl hl)
  clear hn hf hfl hl
  go_enter Try.func46, Try.ntmps46
  go_wp2
  go_ret
  exact ⟨ret_bool H.out, rfl⟩

noncomputable def okB (t : Tg) : Bool := open Classical in if t.Ok ∧ 0 ≤ t.at' then true else false
theorem okB_iff {t : Tg} : okB t = true ↔ (t.Ok ∧ 0 ≤ t.at') := by unfold okB; split <;> simp_all
theorem okB_no {t : Tg} (h : ¬ (t.Ok ∧ 0 ≤ t.at')) : okB t = false := by unfold okB; rw [if_neg h]

set_option maxRecDepth 20000 in
set_option maxHeartbeats 3200000 in
theorem rightTag_any (t : Tg) (w : World) (ht : t.B) :
    Calls Try.prog 38 #[.agg #[.int .i64 t.id, .int .i64 t.owner, .int .i64 t.heir, .int .i64 t.at']] w fun e w' => e = .returned (.bool (okB t)) ∧ Below w.heap.size w w' := by
  obtain ⟨i, o, h, a⟩ := t
  have hb : Below w.heap.size w (w.alloc (.cells #[.int .i64 i, .int .i64 o, .int .i64 h, .int .i64 a] 43)) := (Below.refl _ _).alloc (Nat.le_refl _) _
  have HB := Lib.hid hb
  have HE : Hid (okB ⟨i, o, h, a⟩ = ((decide (1 ≤ i) && decide (i ≤ 1073741824)) && (decide (0 ≤ a) && decide (a ≤ 1099511627776)) && (if o = 0 then decide (1 ≤ h) && decide (h ≤ 2) else (decide (1 ≤ o) && decide (o ≤ 2)) && decide (h = 0)))) := by
    refine Lib.hid ?_
    by_cases hh : (⟨i, o, h, a⟩ : Tg).Ok ∧ 0 ≤ (⟨i, o, h, a⟩ : Tg).at'
    · rw [okB_iff.2 hh]
      unfold Tg.Ok at hh
      simp only at hh
      split
      · simp; omega
      · simp; omega
    · rw [okB_no hh]
      unfold Tg.Ok at hh
      simp only at hh
      symm
      split
      · rw [← Bool.not_eq_true]; intro hx; simp at hx; omega
      · rw [← Bool.not_eq_true]; intro hx; simp at hx; omega
  have HI : Hid (I64 i ∧ I64 o ∧ I64 h ∧ I64 a) := Lib.hid ht
  clear ht hb
  obtain ⟨b1, h1⟩ : ∃ b, (decide (1 ≤ i) && decide (i ≤ 1073741824)) = b := ⟨_, rfl⟩
  obtain ⟨b2, h2⟩ : ∃ b, (decide (0 ≤ a) && decide (a ≤ 1099511627776)) = b := ⟨_, rfl⟩
  obtain ⟨b3, h3⟩ : ∃ b, (decide (1 ≤ h) && decide (h ≤ 2)) = b := ⟨_, rfl⟩
  obtain ⟨b4, h4⟩ : ∃ b, (decide (1 ≤ o) && decide (o ≤ 2)) = b := ⟨_, rfl⟩
  rw [h1, h2, h3, h4] at HE
  have E1 := Lib.hid h1
  have E2 := Lib.hid h2
  have E3 := Lib.hid h3
  have E4 := Lib.hid h4
  clear h1 h2 h3 h4
  cases b1 <;> cases b2 <;> cases b4 <;> by_cases ho : o = 0
  all_goals
    go_enter Try.func38, Try.ntmps38
    go_wp2_with (go_at_call 46; refine (between_any _ _ _ _ (by first | exact HI.out.1 | exact HI.out.2.1 | exact HI.out.2.2.1 | exact HI.out.2.2.2) (by decide) (by decide) (by decide)).mono ?_; (first | rw [E1.out] | rw [E2.out] | rw [E3.out] | rw [E4.out]); rintro e w1 ⟨rfl, rfl⟩)
    go_ret
    refine ⟨ret_bool ?_, (Below.refl _ _).alloc (Nat.le_refl _) _⟩
    rw [HE.out]
    by_cases hh : h = 0 <;> simp [ho, hh]

/-! ### is an ID among them? -/
def hasId (ts : List Tg) (k : Int) : Bool := ts.any fun t => decide (t.id = k)
set_option maxHeartbeats 800000 in
theorem isID_any (t : Tg) (k : Int) (x : Nat) (w : World) (hc : w.cell? ⟨x, 0, none⟩ = some (.int .i64 k)) :
    Calls Try.prog 48 #[.agg #[.int .i64 t.id, .int .i64 t.owner, .int .i64 t.heir, .int .i64 t.at'], .pointer (some ⟨x, 0, none⟩)] w fun e w' => e = .returned (.bool (decide (t.id = k))) ∧ Below w.heap.size w w' := by
  obtain ⟨i, o, h, a⟩ := t
  have hx := World.block_lt_of_cell? w _ hc
  have hb : Below w.heap.size w (w.alloc (.cells #[.int .i64 i, .int .i64 o, .int .i64 h, .int .i64 a] 43)) := (Below.refl _ _).alloc (Nat.le_refl _) _
  have hc2 : (w.alloc (.cells #[.int .i64 i, .int .i64 o, .int .i64 h, .int .i64 a] 43)).cell? ⟨x, 0, none⟩ = some (.int .i64 k) := by rw [hb.cell hx]; exact hc
  have HB := Lib.hid hb
  clear hb
  go_enter Try.func48, Try.ntmps48
  go_wp2
  go_ret
  exact ⟨ret_bool rfl, HB.out⟩
/-- Where the first one is; -1: nowhere. -/
def idAt (ts : List Tg) (k : Int) : Int := if hasId ts k then (ts.findIdx fun t => decide (t.id = k) : Nat) else -1
set_option maxRecDepth 20000 in
set_option maxHeartbeats 3200000 in
theorem idxF_any (a : Option Addr) (n c : Nat) (ts : List Tg) (k : Int) (x : Nat) (w : World) (hr : TRow w a c ts) (hn : ts.length = n) (hn2 : n ≤ 1000000) (hc : w.cell? ⟨x, 0, none⟩ = some (.int .i64 k)) :
    Calls Try.prog 50 #[.slice a n c, .func (.func 48) #[] #[.pointer (some ⟨x, 0, none⟩)]] w fun e w' => (∃ z : Int, e = .returned (.int .i64 z) ∧ (decide (0 ≤ z) = hasId ts k)) ∧ Below w.heap.size w w' := by
  have HR := Lib.hid hr
  have HN := Lib.hid hn
  have HC := Lib.hid hc
  have hxl := World.block_lt_of_cell? w _ hc
  have hc1 := hr.1
  rw [hn] at hc1
  clear hr hn hc
  go_enter Try.func50, Try.ntmps50
  go_wp2_with fail
  go_loopw [5, 8] (fun _ i wr => ∃ j : Nat, i = .int .i64 j ∧ j ≤ n ∧ Below w.heap.size w wr ∧ Hid (∀ (m : Nat) t, m < j → ts[m]? = some t → t.id ≠ k)) (fun _ i _ => n - (intOf i).toNat)
  case atStart => exact ⟨0, rfl, by omega, Below.refl _ _, Lib.hid (fun m t h => by omega)⟩
  case round =>
    obtain ⟨j, rfl, hj, hb, HA⟩ := hrel
    have HB := Lib.hid hb
    clear hb
    by_cases hjn : (j : Int) < n
    · obtain ⟨t, ht⟩ : ∃ t, ts[j]? = some t := ⟨ts[j]'(by have := HN.out; omega), List.getElem?_eq_getElem _⟩
      obtain ⟨b1, o1, rfl, p0, p1, p2, p3⟩ := (HR.out.later HB.out).at ht
      have HT := Lib.hid ht
      have HK := Lib.hid (isID_any t k x wr (by rw [HB.out.cell hxl]; exact HC.out))
      clear ht
      by_cases hk : t.id = k
      · have HY : Hid (hasId ts k = true) := Lib.hid (by unfold hasId; rw [List.any_eq_true]; exact ⟨t, List.mem_of_getElem? HT.out, by simp [hk]⟩)
        have hd : decide (t.id = k) = true := by simp [hk]
        rw [hd] at HK
        clear hk hd
        go_wp2_with (go_at_call 48; refine HK.out.mono ?_; rintro e w1 ⟨rfl, hb1⟩)
        go_ret
        exact ⟨⟨_, rfl, by rw [HY.out]; simp⟩, HB.out.trans (hb1.mono HB.out.size)⟩
      · have HA2 : Hid (∀ (m : Nat) u, m < j + 1 → ts[m]? = some u → u.id ≠ k) := Lib.hid (fun m u hm hu => by
          by_cases e : m = j
          · subst e
            rw [HT.out] at hu
            cases hu
            exact hk
          · exact HA.out m u (by omega) hu)
        have hd : decide (t.id = k) = false := by simp [hk]
        rw [hd] at HK
        clear hk hd
        go_wp2_with (go_at_call 48; refine HK.out.mono ?_; rintro e w1 ⟨rfl, hb1⟩)
        go_roundw
        case rel => exact ⟨j + 1, by go_num, by omega, HB.out.trans (hb1.mono HB.out.size), HA2⟩
        case measure => simp [intOf]; omega
    · have : j = n := by omega
      subst this
      have HY : Hid (hasId ts k = false) := Lib.hid (by
        unfold hasId; rw [List.any_eq_false]; intro t ht
        obtain ⟨m, hm⟩ := List.mem_iff_getElem?.1 ht
        have := HA.out m t (by have := (List.getElem?_eq_some_iff.1 hm).1; have := HN.out; omega) hm
        simpa using this)
      go_wp2_with fail
      go_ret
      exact ⟨⟨_, rfl, by rw [HY.out]; rfl⟩, HB.out⟩
set_option maxHeartbeats 800000 in
theorem hasF_any (a : Option Addr) (n c : Nat) (ts : List Tg) (k : Int) (x : Nat) (w : World) (hr : TRow w a c ts) (hn : ts.length = n) (hn2 : n ≤ 1000000) (hc : w.cell? ⟨x, 0, none⟩ = some (.int .i64 k)) :
    Calls Try.prog 47 #[.slice a n c, .func (.func 48) #[] #[.pointer (some ⟨x, 0, none⟩)]] w fun e w' => e = .returned (.bool (hasId ts k)) ∧ Below w.heap.size w w' := by
  have HK := Lib.hid (idxF_any a n c ts k x w hr hn hn2 hc)
  clear hr hn hc
  go_enter Try.func47, Try.ntmps47
  go_wp2_with (go_at_call 50; refine HK.out.mono ?_; rintro e w1 ⟨⟨z, rfl, hz⟩, hb1⟩)
  go_ret
  exact ⟨rfl, hb1⟩
set_option maxHeartbeats 800000 in
theorem hasID_any (a : Option Addr) (n c : Nat) (ts : List Tg) (k : Int) (w : World) (hr : TRow w a c ts) (hn : ts.length = n) (hn2 : n ≤ 1000000) :
    Calls Try.prog 39 #[.slice a n c, .int .i64 k] w fun e w' => e = .returned (.bool (hasId ts k)) ∧ Below w.heap.size w w' := by
  have hmf : ∀ (fn : Fn) (first cap : Array Value) (w : World), (Instr.makeFunc fn first cap).run Try.prog w = .ok (.func fn first cap) w := fun _ _ _ _ => rfl
  have hb : Below w.heap.size w (w.alloc (.cells #[.int .i64 k] 3)) := (Below.refl _ _).alloc (Nat.le_refl _) _
  have HB := Lib.hid hb
  have HK := Lib.hid (hasF_any a n c ts k w.heap.size _ (hr.later hb) hn hn2 ((RecAt.new w #[.int .i64 k] 3).cell rfl))
  clear hr hn hb
  go_enter Try.func39, Try.ntmps39
  go_wp2_with (go_at_call 47; refine HK.out.mono ?_; rintro e w1 ⟨rfl, hb1⟩)
  go_ret
  exact ⟨rfl, HB.out.trans (hb1.mono HB.out.size)⟩
end Go.Proofs.Ytpeamfndanbhiaa
