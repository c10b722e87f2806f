/- A store that never takes more than its room: each act. -/
import Derived.Test.YtgjdabneodkmpaaStRg
namespace Go.Proofs.Ytgjdabneodkmpaa
open Go.RowKit
set_option linter.unusedVariables false

/-- All that stays so; n acts were done at most. -/
structure RI (S : St) (R : Int) (n : Nat) : Prop where
  good : S.Good n
  off : S.off = false
  room : S.room = R
  used : S.used ≤ R
theorem RI.mono {S : St} {room : Int} {n m : Nat} (h : RI S room n) (hm : n ≤ m) : RI S room m := ⟨h.good.mono hm, h.off, h.room, h.used⟩
theorem RI.nn {S : St} {room : Int} {n : Nat} (h : RI S room n) : 0 ≤ S.used := h.good.used_bd.1
theorem RI.why {S : St} {room : Int} {n q : Nat} (h : RI S room n) (hq : q < 8) : whyNot S (keyW q) = 0 := by
  unfold whyNot; rw [h.off, keyW_right hq]; rfl
theorem did_used (S : St) (k : K4) (d : Deed) : (S.did k d).used = S.used + (usedOf (doneD d (S.seen k)) - usedOf (S.seen k)) := by
  show (S.logged k d).used + _ = _
  rw [(St.logged_seen S k d).2.2.1]
theorem RI.did {S : St} {room : Int} {n : Nat} (h : RI S room n) (hn : n ≤ 900) {k : K4} (hk : k.ok) {d : Deed} (hc : canD d (S.seen k)) (hu : usedOf (doneD d (S.seen k)) - usedOf (S.seen k) ≤ max (S.room - S.used) 0) : RI (S.did k d) room (n + 1) := by
  refine ⟨h.good.did (by omega) hk hc, ?_, ?_, ?_⟩
  · rw [(S.did_rest k d).2.1]; exact h.off
  · rw [(S.did_rest k d).1]; exact h.room
  · rw [did_used]
    have h1 := h.used
    have h2 := h.room
    omega
theorem RI.dried {S : St} {room : Int} {n : Nat} (h : RI S room n) : RI S.dried room (n + 1) := ⟨h.good.dried, h.off, h.room, h.used⟩
theorem set_no (w : World) (b : Nat) (g : Gh) (S : St) (h : Sto w b g S) (k : K4) (hk : k.ok) (hno : S.seen k = .none ∨ whyNot S k ≠ 0) (s : ByteArray) (a : Option Addr) (m cap : Nat) :
    Calls Try.prog 50 #[.pointer (some ⟨b, 0, .none⟩), kv k, .string s, .slice a m cap] w fun e w' => e = .returned (.int .i64 (noC S k)) ∧ Below w.heap.size w w' := by
  obtain ⟨pv, c, hfr, hc0, hcc⟩ := findR_no h hk hno
  obtain ⟨w1, hwe⟩ : ∃ w1, w.alloc (.cells #[.int .i64 k.a, .int .i64 k.b, .int .i64 k.c, .int .i64 k.d] 27) = w1 := ⟨_, rfl⟩
  have hb1 : Below w.heap.size w w1 := by rw [← hwe]; exact (Below.refl _ _).alloc (Nat.le_refl _) _
  have hK : KeyAt w1 w.heap.size k := by rw [← hwe]; exact KeyAt.new w k
  have HFD := Lib.hid (find_any w1 b g S (h.later hb1) k hk)
  rw [hfr] at HFD
  obtain ⟨k0, k1, k2, k3⟩ := hK.cells
  have HB := Lib.hid hb1
  have HC := Lib.hid hcc
  clear h hb1 hK hfr hcc hno
  unfold kv at HFD ⊢
  go_enter Try.func50, Try.ntmps50
  go_upto_region 1 with fail
  clear hwe
  go_wp2_with fail
  refine HFD.out.mono ?_
  rintro e w2 ⟨rfl, hb2⟩
  clear HFD k0 k1 k2 k3
  have HB2 := Lib.hid (HB.out.trans (hb2.mono HB.out.size))
  clear HB hb2
  go_wp2_with fail
  go_ret
  exact ⟨by rw [HC.out]; rfl, HB2.out⟩
/-- What an act leaves. -/
def Acted (w0 : World) (b : Nat) (room : Int) (n : Nat) (w : World) (g : Gh) (w' : World) : Prop := ∃ g' S', NSto w0 w' b g' S' ∧ RI S' room (n + 1) ∧ Jk w w' g.r g'.r
section
variable {w0 w : World} {b : Nat} {g : Gh} {S : St} {room : Int} {n q : Nat}
theorem Acted.stay (h : NSto w0 w b g S) (hl : RI S room n) {w' : World} (hb : Below w.heap.size w w') : Acted w0 b room n w g w' := ⟨g, S, h.later hb, hl.mono (by omega), Jk.of_below hb _⟩
theorem Acted.fr (h : NSto w0 w b g S) {S' : St} {g' : Gh} {w' : World} (hs : Sto w' b g' S') (hf : Fr w w' g.r g'.r ours) (hl : RI S' room (n + 1)) : Acted w0 b room n w g w' := ⟨g', S', h.fr hs hf, hl, Jk.of_fr hf (by simp [ours])⟩
theorem make_ri (h : NSto w0 w b g S) (hl : RI S room n) (hn : n ≤ 900) (hq : q < 8) :
    Calls Try.prog 10 #[.pointer (some ⟨b, 0, .none⟩), kv (keyW q)] w fun e w' => (∃ c, e = .returned (.int .i64 c)) ∧ Acted w0 b room n w g w' := by
  cases ho : S.seen (keyW q) with
  | some o =>
    refine (make_there w b g S h.sto (keyW q) (keyW_ok hq) o ho (hl.why hq)).mono ?_
    rintro e w' ⟨rfl, hb⟩
    exact ⟨⟨_, rfl⟩, .stay h hl hb⟩
  | none =>
    refine (make_any w b g S h.sto (keyW q) (keyW_ok hq) ho (hl.why hq) (by have := hl.good.sks; omega) hl.good.wf n (hl.good.sm (by omega)) (by omega)).mono ?_
    rintro e w' ⟨rfl, g', hs, hf⟩
    refine ⟨⟨_, rfl⟩, .fr h hs hf (hl.did hn (keyW_ok hq) (.inl rfl) ?_)⟩
    rw [ho]; simp [doneD, usedOf, Ob.none]; omega
theorem drop_ri (h : NSto w0 w b g S) (hl : RI S room n) (hn : n ≤ 900) (hq : q < 8) :
    Calls Try.prog 28 #[.pointer (some ⟨b, 0, .none⟩), kv (keyW q)] w fun e w' => (∃ c, e = .returned (.int .i64 c)) ∧ Acted w0 b room n w g w' := by
  cases ho : S.seen (keyW q) with
  | none =>
    refine (drop_no w b g S h.sto (keyW q) (keyW_ok hq) (.inl ho)).mono ?_
    rintro e w' ⟨rfl, hb⟩
    exact ⟨⟨_, rfl⟩, .stay h hl hb⟩
  | some o =>
    refine (drop_any w b g S h.sto (keyW q) (keyW_ok hq) o ho (hl.why hq) hl.good.wf n (hl.good.sm (by omega)) (by omega)).mono ?_
    rintro e w' ⟨rfl, g', hs, hf⟩
    refine ⟨⟨_, rfl⟩, .fr h hs hf (hl.did hn (keyW_ok hq) (.inr (.inl rfl)) ?_)⟩
    have := (hl.good.wf.seen _ o ho).2
    rw [ho]; simp [doneD, usedOf]; omega
theorem trim_ri (h : NSto w0 w b g S) (hl : RI S room n) (hn : n ≤ 900) (hq : q < 8) (t : Int) :
    Calls Try.prog 49 #[.pointer (some ⟨b, 0, .none⟩), kv (keyW q), .int .i64 t] w fun e w' => (∃ c, e = .returned (.int .i64 c)) ∧ Acted w0 b room n w g w' := by
  cases ho : S.seen (keyW q) with
  | none =>
    refine (trim_no w b g S h.sto (keyW q) (keyW_ok hq) (.inl ho) t).mono ?_
    rintro e w' ⟨rfl, hb⟩
    exact ⟨⟨_, rfl⟩, .stay h hl hb⟩
  | some o =>
    refine (trim_any w b g S h.sto (keyW q) (keyW_ok hq) o ho (hl.why hq) hl.good.wf n (hl.good.sm (by omega)) (by omega) t).mono ?_
    rintro e w' ⟨rfl, g', hs, hf⟩
    refine ⟨⟨_, rfl⟩, .fr h hs hf (hl.did hn (keyW_ok hq) (.inr (.inr (.inr (.inl ⟨rfl, by rw [ho]; rfl⟩)))) ?_)⟩
    have h1 := o.cut_len t
    have h2 : (o.cut t).named = o.named := rfl
    rw [ho]; simp [doneD, usedOf]; omega
theorem wr_ri (hl : RI S room n) (hn : n ≤ 900) (hq : q < 8) {o : Ob} (ho : S.seen (keyW q) = some o) (off : Int) (l : List UInt8) (hln : l.length ≤ 60) : RI (S.wr (keyW q) o off l).2 room (n + 1) ∧ ((S.wr (keyW q) o off l).1 = 6 → max (S.room - S.used) 0 < growthI o off l.length) := by
  unfold St.wr
  split
  · exact ⟨hl.mono (by omega), fun h => by simp at h⟩
  · split
    · rename_i h1 h2; exact ⟨hl.mono (by omega), fun _ => h2⟩
    · rename_i h1 h2
      refine ⟨hl.did hn (keyW_ok hq) (.inr (.inr (.inl ⟨rfl, by rw [ho]; rfl, by show 0 ≤ off; omega, by show off + l.length ≤ 16384; omega⟩))) ?_, fun h => by simp at h⟩
      have h4 := writeL_len o.bytes off.toNat l
      have h5 : l = [] → writeL o.bytes off.toNat l = o.bytes := fun e => by rw [e, writeL_nil]
      have h6 : doneD ⟨1, off, [], l⟩ (S.seen (keyW q)) = some (o.wr off.toNat l) := by rw [ho]; simp [doneD]
      have h7 : usedOf (some (o.wr off.toNat l)) = ((writeL o.bytes off.toNat l).length : Int) + o.named := rfl
      have h8 : usedOf (some o) = (o.bytes.length : Int) + o.named := rfl
      rw [h6, ho, h7, h8]
      unfold growthI at h2
      by_cases hz : l = []
      · rw [h5 hz]; omega
      · have : l.length ≠ 0 := fun e => hz (List.length_eq_zero_iff.1 e)
        rw [if_neg (by omega)] at h2
        omega
theorem write_ri (h : NSto w0 w b g S) (hl : RI S room n) (hn : n ≤ 900) (hq : q < 8) (off : Int) (hof : -9223372036854775808 ≤ off ∧ off ≤ 9223372036854775807) (a : Option Addr) (m c : Nat) (l : List UInt8) (hr : Row w a c l) (hm : l.length = m) (hm6 : m ≤ 60) :
    Calls Try.prog 31 #[.pointer (some ⟨b, 0, .none⟩), kv (keyW q), .int .i64 off, .slice a m c] w fun e w' => (∃ c, e = .returned (.int .i64 c)) ∧ Acted w0 b room n w g w' := by
  cases ho : S.seen (keyW q) with
  | none =>
    refine (write_no w b g S h.sto (keyW q) (keyW_ok hq) (.inl ho) off a m c).mono ?_
    rintro e w' ⟨rfl, hb⟩
    exact ⟨⟨_, rfl⟩, .stay h hl hb⟩
  | some o =>
    refine (write_any w b g S h.sto (keyW q) (keyW_ok hq) o ho (hl.why hq) off hof a c m l hr hm (by omega) hl.good.wf n (hl.good.sm (by omega)) (by omega) hl.nn).mono ?_
    rintro e w' ⟨rfl, g', hs, hf⟩
    exact ⟨⟨_, rfl⟩, .fr h hs hf (wr_ri hl hn hq ho off l (by omega)).1⟩
theorem append_ri (h : NSto w0 w b g S) (hl : RI S room n) (hn : n ≤ 900) (hq : q < 8) (a : Option Addr) (m c : Nat) (l : List UInt8) (hr : Row w a c l) (hm : l.length = m) (hm6 : m ≤ 60) :
    Calls Try.prog 12 #[.pointer (some ⟨b, 0, .none⟩), kv (keyW q), .slice a m c] w fun e w' => (∃ c, e = .returned (.int .i64 c) ∧ (c = 6 → max (S.room - S.used) 0 < m)) ∧ Acted w0 b room n w g w' := by
  cases ho : S.seen (keyW q) with
  | none =>
    refine (append_no w b g S h.sto (keyW q) (keyW_ok hq) (.inl ho) a m c).mono ?_
    rintro e w' ⟨rfl, hb⟩
    refine ⟨⟨_, rfl, fun e => ?_⟩, .stay h hl hb⟩
    unfold noC at e; rw [hl.why hq] at e; simp at e
  | some o =>
    refine (append_any w b g S h.sto (keyW q) (keyW_ok hq) o ho (hl.why hq) a c m l hr hm (by omega) hl.good.wf n (hl.good.sm (by omega)) (by omega) hl.nn).mono ?_
    rintro e w' ⟨rfl, g', hs, hf⟩
    have h1 := wr_ri hl hn hq ho o.bytes.length l (by omega)
    refine ⟨⟨_, rfl, fun e => ?_⟩, .fr h hs hf h1.1⟩
    have h2 := h1.2 e
    unfold growthI at h2
    split at h2 <;> omega
theorem set_ri (h : NSto w0 w b g S) (hl : RI S room n) (hn : n ≤ 900) (hq : q < 8) (nm : ByteArray) (hnm : nm.size ≤ 30) (a : Option Addr) (m c : Nat) (l : List UInt8) (hr : Row w a c l) (hm : l.length = m) (hm6 : m ≤ 60) :
    Calls Try.prog 50 #[.pointer (some ⟨b, 0, .none⟩), kv (keyW q), .string nm, .slice a m c] w fun e w' => (∃ c, e = .returned (.int .i64 c)) ∧ Acted w0 b room n w g w' := by
  cases ho : S.seen (keyW q) with
  | none =>
    refine (set_no w b g S h.sto (keyW q) (keyW_ok hq) (.inl ho) nm a m c).mono ?_
    rintro e w' ⟨rfl, hb⟩
    exact ⟨⟨_, rfl⟩, .stay h hl hb⟩
  | some o =>
    obtain ⟨x, hx⟩ : ∃ x, g.pm (keyW q) = x := ⟨_, rfl⟩
    have hox := h.sto.seen (keyW q) (keyW_ok hq)
    rw [hx, ho] at hox
    obtain ⟨za, hza⟩ : ∃ z, AttrSum o.attrs o.named z := by
      cases x with
      | none => exact hox.elim
      | some x => obtain ⟨bv, av, hob⟩ := hox; exact hob.attrs.sum
    have e0 : (⟨nm.data.toList.toArray⟩ : ByteArray) = nm := by simp
    have e1 : nm.data.toList.length = nm.size := ba_len nm
    have hS := sset_any w b g S h.sto (keyW q) (keyW_ok hq) o ho (hl.why hq) nm.data.toList a c m l hr hm (by omega) (by omega) hl.good.wf n (hl.good.sm (by omega)) (by omega) hl.nn
    rw [e0] at hS
    refine hS.mono ?_
    rintro e w' ⟨rfl, g', hs, hf⟩
    refine ⟨⟨_, rfl⟩, .fr h hs hf ?_⟩
    unfold St.setA
    split
    · exact hl.mono (by omega)
    · split
      · exact hl.mono (by omega)
      · rename_i h1 h2
        have hnn : 0 ≤ o.named + growA o.attrs nm.data.toList l := (hza.set nm.data.toList l).nn
        have hnd := hl.good.named _ o ho
        refine hl.did hn (keyW_ok hq) (.inr (.inr (.inr (.inr ⟨rfl, by rw [ho]; rfl, by show nm.data.toList.length ≤ 20; omega, by show l.length ≤ 4096; omega, fun o' ho' => by
          rw [ho] at ho'; cases ho'; exact ⟨hnn, by omega⟩⟩)))) ?_
        have h6 : doneD ⟨4, 0, nm.data.toList, l⟩ (S.seen (keyW q)) = some (o.set nm.data.toList l) := by rw [ho]; simp [doneD]
        have h7 : usedOf (some (o.set nm.data.toList l)) = (o.bytes.length : Int) + (o.named + growA o.attrs nm.data.toList l) := rfl
        have h8 : usedOf (some o) = (o.bytes.length : Int) + o.named := rfl
        rw [h6, ho, h7, h8]
        omega
theorem barrier_ri (h : NSto w0 w b g S) (hl : RI S room n) (hn : n ≤ 900) :
    Calls Try.prog 11 #[.pointer (some ⟨b, 0, .none⟩)] w fun e w' => (∃ c, e = .returned (.int .i64 c)) ∧ Acted w0 b room n w g w' := by
  refine (barrier_any w b g S h.sto hl.off (by have := hl.good.deeds; omega)).mono ?_
  rintro e w' ⟨rfl, g', hs, hf⟩
  exact ⟨⟨_, rfl⟩, .fr h hs hf hl.dried⟩
end
end Go.Proofs.Ytgjdabneodkmpaa
