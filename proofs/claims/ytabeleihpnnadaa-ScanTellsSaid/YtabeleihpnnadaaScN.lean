/- Scans: rows of entries that a call made itself, in blocks of its own alone; All, the program's and the document's. -/
import Derived.Test.YtabeleihpnnadaaFrX
import Derived.Test.YtabeleihpnnadaaNRow
namespace Go.Proofs.Ytabeleihpnnadaa
open Go.RowKit Go.Proofs
set_option linter.unusedVariables false
set_option linter.unusedSimpArgs false
set_option linter.unnecessarySimpa false

/-! ### entries as records that lead on -/
def EnR : Rel En := fun J w cs e => ∃ v, cs = [.int .i64 e.tag, .int .i64 e.seq, v] ∧ BJ J w v e.data
theorem en_rel : RelOk EnR where
  keep := fun {J w w' cs t} h hb hs => by
    obtain ⟨v, h1, h2⟩ := h
    exact ⟨v, h1, h2.keep hb hs⟩
  weak := fun {J J' w cs t} h hj => by
    obtain ⟨v, h1, h2⟩ := h
    exact ⟨v, h1, h2.weak hj⟩
theorem enT_ok : (rawT 3 38 26).Ok := rawT_ok (by decide) Try.underlying26 info_en (by decide) rfl
abbrev NE (J : Nat → Prop) (w : World) (v : Value) (es : List En) : Prop := NRow J 3 38 26 EnR w v es
abbrev OE (J : Nat → Prop) (W0 w : World) (v : Value) (es : List En) : Prop := NOwn J 3 38 26 EnR W0 w v es
/-- All blocks from here on. -/
def fromJ (W0 : World) : Nat → Prop := fun b => W0.heap.size ≤ b
theorem fromJ_new (W0 : World) : NewJ (fromJ W0) W0 := fun b h => h
theorem NRow.erow {J : Nat → Prop} {w : World} {a : Option Addr} {n cap : Nat} {es : List En} (h : NE J w (.slice a n cap) es) : es.length = n ∧ ERow w a cap es := by
  obtain ⟨css, a', cap', hv, h1, h2, h3⟩ := h
  simp only [Value.slice.injEq] at hv
  obtain ⟨rfl, rfl, rfl⟩ := hv
  refine ⟨rfl, by rw [← h3.1]; exact h1.1, h1.2.1, h1.2.2.1, fun x hx i e he => ?_⟩
  obtain ⟨c, hc, v, hcv, a1, c1, rfl, hr, _⟩ := h3.at he
  obtain ⟨hs, hk⟩ := h1.2.2.2.2 x hx i c hc
  have k0 := hk 0 (.int .i64 e.tag) (by show c.1[0]? = _; rw [hcv]; rfl)
  have k1 := hk 1 (.int .i64 e.seq) (by show c.1[1]? = _; rw [hcv]; rfl)
  have k2 := hk 2 (.slice a1 e.data.length c1) (by show c.1[2]? = _; rw [hcv]; rfl)
  exact ⟨hs, a1, c1, k0, k1, k2, hr⟩
theorem NOwn.lt {α : Type} {sz : Nat} {tE tS : TypeId} {E : Rel α} {J : Nat → Prop} {W0 w : World} {v : Value} {ts : List α} (h : NOwn J sz tE tS E W0 w v ts) {k : Nat} (hk : v.ownBlock = some k) : W0.heap.size ≤ k ∧ k < w.heap.size := by
  obtain ⟨css, h1, h2⟩ := h
  exact World.ownsRow.lt h1.1 k hk
theorem NOwn.ne_old {α : Type} {sz : Nat} {tE tS : TypeId} {E : Rel α} {J : Nat → Prop} {W0 w : World} {v : Value} {ts : List α} (h : NOwn J sz tE tS E W0 w v ts) {k : Nat} (hk : w.heap.size ≤ k) : some k ≠ v.ownBlock := fun e => by
  have := (h.lt e.symm).2; omega

section
variable {ops : Array Oper} {rest : List Oper} {o : Oper} {a : Act} {Q : Exit → Act → World → Prop} {α : Type} {sz : Nat} {tE tS : TypeId} {E : Rel α} {J : Nat → Prop}
/-- 'append(s, l...)', s the call's own, l records that lean on no block of s's. -/
theorem wp_nons (hR : (rawT sz tE tS).Ok) (hE : RelOk E) {w0 : World} (hgd : o.guard = none) (s x : Operand) (ho : o.op = .call { callee := .builtin .append, args := #[s, x], argTypes := #[tS, tS] })
    (v : Value) (ts : List α) (hs : a.eval s = v) (W0 : World) (hown : NOwn J sz tE tS E W0 w0 v ts) (us : List α) (xa : Option Addr) (xn xc : Nat) (hx : a.eval x = .slice xa xn xc) (hr : NRow (lessJ J v) sz tE tS E w0 (.slice xa xn xc) us) (hlen : ts.length + us.length ≤ 1000000)
    (h : ∀ v' w', NOwn J sz tE tS E W0 w' v' (ts ++ us) → w0.grownBy w' v.ownBlock → wpList Try.prog ops Q rest (a.put o.dst v') w') :
    wpList Try.prog ops Q (o :: rest) a w0 := by
  obtain ⟨css, g1, g2⟩ := hown
  obtain ⟨dss, a', cap', hv, h1, h2, h3⟩ := hr
  simp only [Value.slice.injEq] at hv
  obtain ⟨rfl, rfl, rfl⟩ := hv
  refine wp_gapp hR hgd s x ho rfl v css hs W0 g1 _ _ _ dss h1 h3.1 hx (by rw [g2.1, h3.1]; exact hlen) fun v' w' o2 gr hat => h v' w' ⟨_, o2, ?_⟩ gr
  have key : ∀ c u, E (lessJ J v) w0 c u → E (lessJ J v') w' c u := fun c u hc => lean_grown hE hc gr hat (Nat.le_refl _)
  exact (g2.mono fun c u hc => key _ _ hc).append (h3.mono fun c u hc => key _ _ hc)
end
set_option maxRecDepth 20000 in
set_option maxHeartbeats 3200000 in
theorem all_new (ad : Option Addr) (m cap : Nat) (l : List UInt8) (w : World) (hr : Row w ad cap l) (hm : l.length = m) (hlen : m ≤ 100000) :
    Calls Try.prog 28 #[.slice ad m cap] w fun e w' => ∃ v, e = .returned (.tuple #[v, .int .i64 ((allA l).2 : Nat)]) ∧ OE (fromJ w) w w' v (allA l).1 := by
  have HR := Lib.hid hr
  have HM := Lib.hid hm
  clear hr hm
  go_enter Try.func28, Try.ntmps28
  go_wp2_with fail
  go_loopw [4, 5] (fun v p wr => ∃ (q f : Nat) (es : List En), p = .int .i64 q ∧ q ≤ m ∧ m < q + f ∧ es.length ≤ q ∧ OE (fromJ w) w wr v es ∧ Hid (allA l = (es ++ (allF f l q).1, (allF f l q).2))) (fun _ p _ => m - (intOf p).toNat)
  case atStart => exact ⟨0, m + 1, [], rfl, by omega, by omega, by simp, NOwn.nil' (Below.refl _ _), Lib.hid (by unfold allA; rw [HM.out]; rfl)⟩
  case round =>
    obtain ⟨q, f, es, rfl, hq, hf, hes, o, HA⟩ := hrel
    have hql : q ≤ l.length := by have := HM.out; omega
    have HK := Lib.hid (take_any ad m cap l q wr (HR.out.later o.below) HM.out hlen (by omega) (by omega))
    rcases takeM_two (l.drop q) with ⟨c, h1, hc⟩ | ⟨e, h1, h2, h3⟩
    · rw [takeA_err hql h1 hc] at HK
      have HA2 : Hid (allA l = (es, q)) := by
        rw [HA.out, allF_end (by rw [h1]; exact hc)]; exact Lib.hid (by simp)
      have hcb : (c == 0) = false := beq_eq_false_iff_ne.2 hc
      clear h1 HA
      go_wp2_with fail
      refine HK.out.mono ?_
      rintro e1 w1 ⟨a, cc, rfl, hr1, hb1, hx1⟩
      unfold entV noE
      simp only [List.length_nil]
      have o1 := o.later en_rel hb1
      go_wp2_with fail
      go_ret2
      rw [HA2.out]
      exact ⟨_, rfl, o1.later en_rel ((Below.refl _ _).alloc (Nat.le_refl _) _)⟩
    · rw [takeA_ok hql h1] at HK
      obtain ⟨f, rfl⟩ : ∃ g, f = g + 1 := ⟨f - 1, by omega⟩
      have HG := Lib.hid (allF_go (f := f) h1)
      have hn0 := (rightE_iff.1 h2).2.2.2.2
      have hle : q + (e.data.length + 22) ≤ m := by have := HM.out; simp at h3; omega
      clear h1 h2 h3 hql
      obtain ⟨n, hn⟩ : ∃ n, e.data.length = n := ⟨_, rfl⟩
      rw [hn] at hle hn0 HG
      have HN := Lib.hid hn
      obtain ⟨Q, hQ⟩ : ∃ Q, q + (n + 22) = Q := ⟨_, rfl⟩
      rw [hn, hQ] at HK
      rw [hQ] at hle HG
      have hqQ : q < Q := by omega
      clear hn hQ
      go_wp2_with fail
      refine HK.out.mono ?_
      rintro e1 w1 ⟨a, c, rfl, hr1, hb1, hx1⟩
      unfold entV
      simp only
      rw [HN.out]
      have o1 := o.later en_rel hb1
      have hr2 : Row w1 a c e.data := hr1
      have hba : Below w1.heap.size w1 (w1.alloc (.cells #[.int .i64 e.tag, .int .i64 e.seq, .slice a n c] 38)) := (Below.refl _ _).alloc (Nat.le_refl _) _
      have HAD : Hid (EnR (lessJ (fromJ w) u4) (w1.alloc (.cells #[.int .i64 e.tag, .int .i64 e.seq, .slice a n c] 38)) [.int .i64 e.tag, .int .i64 e.seq, .slice a n c] e) := Lib.hid (en_rel.later ⟨_, rfl, a, c, by rw [HN.out], hr2, fun y hy => ⟨(hx1 y hy).2, Nat.le_trans o.below.size (hx1 y hy).1, o.ne_old (hx1 y hy).1⟩⟩ hba)
      have O2 := Lib.hid (o1.later en_rel hba)
      have HE2 := Lib.hid (RecAt.new w1 #[.int .i64 e.tag, .int .i64 e.seq, .slice a n c] 38)
      clear HK o hb1 hx1 hr1 hr2 o1 hba
      go_upto_region 6 with fail
      generalize (w1.alloc (.cells #[.int .i64 e.tag, .int .i64 e.seq, .slice a n c] 38)) = w2 at *
      generalize w1.heap.size = E at *
      obtain ⟨c0, c1, c2⟩ := HE2.out.c3
      go_wp2_with (at_builtin; refine wp_non1 enT_ok en_rel rfl _ _ rfl u4 es rfl w O2.out e HAD.out rfl (by intro u hu; simp only [List.mem_cons, List.not_mem_nil, or_false] at hu; rcases hu with rfl | rfl | rfl <;> rfl) rfl (by omega) ?_; intro v9 w9 o9)
      go_roundw
      case rel => exact ⟨Q, f, es ++ [e], by go_num, by omega, by omega, by simp; omega, o9, Lib.hid (by rw [HA.out, HG.out]; simp)⟩
      case measure => simp [intOf]; omega
set_option maxRecDepth 20000 in
set_option maxHeartbeats 3200000 in
theorem rall_new (ad : Option Addr) (m cap : Nat) (l : List UInt8) (w : World) (hr : Row w ad cap l) (hm : l.length = m) (hlen : m ≤ 100000) :
    Calls Try.prog 20 #[.slice ad m cap] w fun e w' => ∃ v, e = .returned (.tuple #[v, .int .i64 ((allA l).2 : Nat)]) ∧ OE (fromJ w) w w' v (allA l).1 := by
  have HR := Lib.hid hr
  have HM := Lib.hid hm
  clear hr hm
  go_enter Try.func20, Try.ntmps20
  go_wp2_with fail
  go_loopw [4, 5] (fun v p wr => ∃ (q f : Nat) (es : List En), p = .int .i64 q ∧ q ≤ m ∧ m < q + f ∧ es.length ≤ q ∧ OE (fromJ w) w wr v es ∧ Hid (allA l = (es ++ (allF f l q).1, (allF f l q).2))) (fun _ p _ => m - (intOf p).toNat)
  case atStart => exact ⟨0, m + 1, [], rfl, by omega, by omega, by simp, NOwn.nil' (Below.refl _ _), Lib.hid (by unfold allA; rw [HM.out]; rfl)⟩
  case round =>
    obtain ⟨q, f, es, rfl, hq, hf, hes, o, HA⟩ := hrel
    have hql : q ≤ l.length := by have := HM.out; omega
    by_cases hqm : (q : Int) < m
    · have HK := Lib.hid (rtake_any ad m cap l q wr (HR.out.later o.below) HM.out hlen (by omega) (by omega))
      rcases takeM_two (l.drop q) with ⟨c, h1, hc⟩ | ⟨e, h1, h2, h3⟩
      · rw [takeA_err hql h1 hc] at HK
        have HA2 : Hid (allA l = (es, q)) := by
          rw [HA.out, allF_end (by rw [h1]; exact hc)]; exact Lib.hid (by simp)
        have hcb : (c == 0) = false := beq_eq_false_iff_ne.2 hc
        clear h1 HA
        go_wp2_with fail
        refine HK.out.mono ?_
        rintro e1 w1 ⟨a, cc, rfl, hr1, hb1, hx1⟩
        unfold entV noE
        simp only [List.length_nil]
        have o1 := o.later en_rel hb1
        go_wp2_with fail
        go_ret2
        rw [HA2.out]
        exact ⟨_, rfl, o1.later en_rel ((Below.refl _ _).alloc (Nat.le_refl _) _)⟩
      · rw [takeA_ok hql h1] at HK
        obtain ⟨f, rfl⟩ : ∃ g, f = g + 1 := ⟨f - 1, by omega⟩
        have HG := Lib.hid (allF_go (f := f) h1)
        have hn0 := (rightE_iff.1 h2).2.2.2.2
        have hle : q + (e.data.length + 22) ≤ m := by have := HM.out; simp at h3; omega
        clear h1 h2 h3 hql
        obtain ⟨n, hn⟩ : ∃ n, e.data.length = n := ⟨_, rfl⟩
        rw [hn] at hle hn0 HG
        have HN := Lib.hid hn
        obtain ⟨Q, hQ⟩ : ∃ Q, q + (n + 22) = Q := ⟨_, rfl⟩
        rw [hn, hQ] at HK
        rw [hQ] at hle HG
        have hqQ : q < Q := by omega
        clear hn hQ
        go_wp2_with fail
        refine HK.out.mono ?_
        rintro e1 w1 ⟨a, c, rfl, hr1, hb1, hx1⟩
        unfold entV
        simp only
        rw [HN.out]
        have o1 := o.later en_rel hb1
        have hr2 : Row w1 a c e.data := hr1
        have hba : Below w1.heap.size w1 (w1.alloc (.cells #[.int .i64 e.tag, .int .i64 e.seq, .slice a n c] 38)) := (Below.refl _ _).alloc (Nat.le_refl _) _
        have HAD : Hid (EnR (lessJ (fromJ w) u4) (w1.alloc (.cells #[.int .i64 e.tag, .int .i64 e.seq, .slice a n c] 38)) [.int .i64 e.tag, .int .i64 e.seq, .slice a n c] e) := Lib.hid (en_rel.later ⟨_, rfl, a, c, by rw [HN.out], hr2, fun y hy => ⟨(hx1 y hy).2, Nat.le_trans o.below.size (hx1 y hy).1, o.ne_old (hx1 y hy).1⟩⟩ hba)
        have O2 := Lib.hid (o1.later en_rel hba)
        have HE2 := Lib.hid (RecAt.new w1 #[.int .i64 e.tag, .int .i64 e.seq, .slice a n c] 38)
        clear HK o hb1 hx1 hr1 hr2 o1 hba
        go_upto_region 6 with fail
        generalize (w1.alloc (.cells #[.int .i64 e.tag, .int .i64 e.seq, .slice a n c] 38)) = w2 at *
        generalize w1.heap.size = E at *
        obtain ⟨c0, c1, c2⟩ := HE2.out.c3
        go_wp2_with (at_builtin; refine wp_non1 enT_ok en_rel rfl _ _ rfl u4 es rfl w O2.out e HAD.out rfl (by intro u hu; simp only [List.mem_cons, List.not_mem_nil, or_false] at hu; rcases hu with rfl | rfl | rfl <;> rfl) rfl (by omega) ?_; intro v9 w9 o9)
        go_roundw
        case rel => exact ⟨Q, f, es ++ [e], by go_num, by omega, by omega, by simp; omega, o9, Lib.hid (by rw [HA.out, HG.out]; simp)⟩
        case measure => simp [intOf]; omega
    · have HA2 : Hid (allA l = (es, q)) := by
        rw [HA.out, allF_end (take_end (by have := HM.out; omega))]; exact Lib.hid (by simp)
      go_wp2_with fail
      go_ret2
      rw [HA2.out]
      exact ⟨_, rfl, o⟩
end Go.Proofs.Ytabeleihpnnadaa
