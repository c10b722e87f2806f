/- The law StoreRooms, walked. -/
import Derived.Test.YtgjdabneodkmpaaStRa
import Derived.Test.YtgjdabneodkmpaaStU
namespace Go.Proofs.Ytgjdabneodkmpaa
open Go.RowKit
set_option linter.unusedVariables false
set_option linter.unusedSimpArgs false

theorem sused_any (w : World) (b : Nat) (g : Gh) (S : St) (h : Sto w b g S) :
    Calls Try.prog 24 #[.pointer (some ⟨b, 0, .none⟩)] w fun e w' => e = .returned (.int .i64 S.used) ∧ w = w' := by
  have c4 : w.cell? ⟨b, 4, .none⟩ = some (.int .i64 S.used) := cell_of_block h.heap rfl
  clear h
  go_enter Try.func24, Try.ntmps24
  go_wp2_with fail
  go_ret
  exact ⟨rfl, rfl⟩
theorem and255w (n : Int) : ∃ q : Nat, bits .and .i64 n 255 = q ∧ q < 256 := by
  have e : (BitVec.ofInt 64 n &&& BitVec.ofInt 64 255).toNat < 256 := by
    rw [BitVec.toNat_and]
    exact Nat.lt_of_le_of_lt Nat.and_le_right (by decide)
  refine ⟨(BitVec.ofInt 64 n &&& BitVec.ofInt 64 255).toNat, ?_, e⟩
  show IntKind.i64.wrap (((BitVec.ofInt 64 n &&& BitVec.ofInt 64 255).toNat : Nat) : Int) = _
  exact IntWalk.i64_in _ (by omega)
theorem RI.new {q : Nat} (hq : q < 256) : RI (St.new q) q 0 := by
  have e : heldI (q : Int) 0 1048576 = q := by unfold heldI; omega
  refine ⟨St.Good.new q, rfl, e, ?_⟩
  show (0 : Int) ≤ q
  omega
/-- What the loop holds. -/
def RmI (w0 wr : World) (b : Nat) (room : Int) (n : Nat) : Prop := ∃ g S, NSto w0 wr b g S ∧ RI S room n

theorem NSto.given {w0 w w' : World} {b x : Nat} {g : Gh} {S : St} (h : NSto w0 w b g S) (hb : Below w.heap.size w w') (hx : w.heap.size ≤ x) (hlt : x < w'.heap.size) : NSto w0 w' b (g.withR (setRole g.r x .own)) S := by
  have hf : Fr w w' g.r (setRole g.r x .own) (fun _ => False) := (Fr.of_below hb g.r (fun _ => False)).newrole fun y hy => setRole_other _ _ (by omega)
  refine ⟨h.sto.frR hf (fun t _ h => h) (Dom.set (Dom.later h.sto.dom hb.size) _ hlt), (h.later hb).below, fun y hy => ?_⟩
  show setRole g.r x .own y = .junk
  rw [setRole_other _ _ (by have := h.below.size; omega)]
  exact h.junk y hy
def refV (N : Nat) : SV := ⟨fun w v => ∃ y, v = .pointer (some ⟨y, 0, .none⟩) ∧ RefAt w y 0 ∧ N ≤ y, fun w w' v ⟨y, h1, h2, h3⟩ hb => ⟨y, h1, h2.later hb, h3⟩⟩
def jRm (w0 w6 : World) (b : Nat) (room : Int) (n : Nat) : Nat → World → Prop
  | 0, w => Below w6.heap.size w6 w
  | _, w => RmI w0 w b room (n + 1)
theorem jRm_st {w0 w6 : World} {b : Nat} {room : Int} {n : Nat} (ph : Nat) {w w' : World} (h : jRm w0 w6 b room n ph w) (hb : Below w.heap.size w w') : jRm w0 w6 b room n ph w' := by
  match ph, h with
  | 0, h => exact Below.trans h (hb.mono h.size)
  | k + 1, h => obtain ⟨g', S', h1, h2⟩ := h; exact ⟨g', S', h1.later hb, h2⟩
theorem room_facts {w0 w : World} {b : Nat} {g : Gh} {S : St} {q n : Nat} (h : NSto w0 w b g S) (hr : RI S (q : Nat) n) (hq : q < 256) :
    ∃ us : Int, 0 ≤ us ∧ us ≤ q ∧ (∀ W, Below w.heap.size w W → Calls Try.prog 24 #[.pointer (some ⟨b, 0, .none⟩)] W fun e w' => e = .returned (.int .i64 us) ∧ W = w') ∧
      (∀ W, Below w.heap.size w W → Calls Try.prog 25 #[.pointer (some ⟨b, 0, .none⟩)] W fun e w' => e = .returned (.int .i64 ((q : Int) - us)) ∧ Below W.heap.size W w') := by
  have h1 := hr.used
  have h2 := hr.nn
  have h3 := hr.room
  refine ⟨S.used, h2, h1, fun W hW => sused_any W b g S (h.sto.later hW), fun W hW => ?_⟩
  have := left_any W b g S (h.sto.later hW) (by omega) (by omega)
  have e : max (S.room - S.used) 0 = (q : Int) - S.used := by omega
  rw [e] at this
  exact this
theorem deed_any (w0 w : World) (b x : Nat) (g : Gh) (S : St) (room : Int) (n : Nat) (h : NSto w0 w b g S) (hl : RI S room n) (hn : n ≤ 900) (hx : RefAt w x 0) (hxo : g.r x = .own) (A : ActP) (hraw : A.raw = false) (q : Nat) (hq : q < 7) (hwh : A.what = (q : Int)) (l : List UInt8) (hr : Row w0 A.pa A.pc l) (hlen : l.length = A.pl) (hm6 : A.pl ≤ 60) (hnm : A.nm.size ≤ 30) (hof : -9223372036854775808 ≤ A.off ∧ A.off ≤ 9223372036854775807) :
    Calls Try.prog 20 #[.pointer (some ⟨b, 0, .none⟩), .pointer (some ⟨x, 0, .none⟩), .agg A.cs] w fun e w' => Deeded w0 b room n e w' := by
  rcases (by omega : q = 0 ∨ q = 1 ∨ q = 2 ∨ q = 3 ∨ q = 4 ∨ q = 5 ∨ q = 6) with rfl | rfl | rfl | rfl | rfl | rfl | rfl
  · exact deed_0 w0 w b x g S room n h hl hn hx hxo A hraw hwh l hr hlen hm6 hnm hof
  · exact deed_1 w0 w b x g S room n h hl hn hx hxo A hraw hwh l hr hlen hm6 hnm hof
  · exact deed_2 w0 w b x g S room n h hl hn hx hxo A hraw hwh l hr hlen hm6 hnm hof
  · exact deed_3 w0 w b x g S room n h hl hn hx hxo A hraw hwh l hr hlen hm6 hnm hof
  · exact deed_4 w0 w b x g S room n h hl hn hx hxo A hraw hwh l hr hlen hm6 hnm hof
  · exact deed_5 w0 w b x g S room n h hl hn hx hxo A hraw hwh l hr hlen hm6 hnm hof
  · exact deed_6 w0 w b x g S room n h hl hn hx hxo A hraw hwh l hr hlen hm6 hnm hof

set_option maxRecDepth 20000 in
set_option maxHeartbeats 2000000 in
theorem storeRooms_walk (room : Int) (a1 : Option Addr) (m cap : Nat) (zs : List (ActP × List UInt8)) (w : World) (h0 : ARow w a1 cap zs) (hm : zs.length = m) (hm2 : m ≤ 9223372036854775807) :
    Calls Try.prog 5 #[.int .i64 room, .slice a1 m cap] w fun e w' => e = .returned (.bool true) ∧ Below w.heap.size w w' := by
  have HF := Lib.hid (few_any w a1 m cap zs h0 hm hm2)
  have HR := Lib.hid h0
  have HM := Lib.hid hm
  have hmc : m ≤ cap := by have := h0.1; omega
  obtain ⟨rm, hrm, hrm2⟩ := and255w room
  clear h0 hm
  go_enter Try.func5, Try.ntmps5
  go_wp2_with fail
  refine HF.out.mono ?_
  rintro e w' ⟨⟨fb, rfl, hfew⟩, rfl⟩
  clear HF
  cases fb with
  | false =>
    have HK := Lib.hid (known_any w)
    clear hfew
    go_wp2_with fail
    refine HK.out.mono ?_
    rintro e w' ⟨rfl, hb⟩
    have HB := Lib.hid hb
    clear hb
    go_wp2_with fail
    go_ret
    exact ⟨rfl, HB.out⟩
  | true =>
    obtain ⟨hm6, hfa⟩ := hfew rfl
    have HFA := Lib.hid hfa
    have HN := Lib.hid (new_any w (rm : Nat))
    clear hfew hfa hm2
    go_wp2_with fail
    refine HN.out.mono ?_
    rintro e w1 ⟨b, g1, rfl, s1, hb1, hlb1, hj1⟩
    clear HN
    have HI0 : Hid (RmI w w1 b rm 0) := Lib.hid ⟨g1, _, ⟨s1, hb1, hj1⟩, RI.new hrm2⟩
    clear s1 hb1 hj1 hlb1
    go_wp2_with fail
    go_loopw [6] (fun i wr => ∃ j : Nat, i = .int .i64 j ∧ j ≤ m ∧ Hid (RmI w wr b rm j)) (fun i _ => m - (intOf i).toNat)
    case atStart => exact ⟨0, rfl, by omega, HI0⟩
    case round =>
      obtain ⟨j, rfl, hj, HI⟩ := hrel
      clear HI0
      by_cases hjm : j < m
      · obtain ⟨⟨A, l⟩, hA⟩ : ∃ x, zs[j]? = some x := ⟨_, List.getElem?_eq_getElem (by have := HM.out; omega)⟩
        obtain ⟨nb, no, rfl, hc, hr, hl, ho, hs⟩ := HR.out.at hA
        obtain ⟨hp6, hn3⟩ := HFA.out j _ hA
        simp only at hp6 hn3
        obtain ⟨g, S, hns, hri⟩ := HI.out
        have hcell : ∀ r v, A.cs[r]? = some v → wr.cell? ⟨nb, no + j * 12 + r, .none⟩ = some v := fun r v hv => (Below.cell hns.below (World.block_lt_of_cell? w _ (hc r v hv))).trans (hc r v hv)
        have HO := Lib.hid (fun W => ours_any A W)
        obtain ⟨wh, wi, of_, nq, raw, ⟨ka, kb, kc, kd⟩, pa, pl, pc, nm, qa, ql, qc⟩ := A
        simp only at hp6 hn3 hr hl ho
        have d0 : wr.cell? ⟨nb, no + j * 12, .none⟩ = some (.int .i64 wh) := hcell 0 _ rfl
        have d1 : wr.cell? ⟨nb, no + j * 12 + 1, .none⟩ = some (.int .i64 wi) := hcell 1 _ rfl
        have d2 : wr.cell? ⟨nb, no + j * 12 + 2, .none⟩ = some (.int .i64 of_) := hcell 2 _ rfl
        have d3 : wr.cell? ⟨nb, no + j * 12 + 3, .none⟩ = some (.int .i64 nq) := hcell 3 _ rfl
        have d4 : wr.cell? ⟨nb, no + j * 12 + 4, .none⟩ = some (.bool raw) := hcell 4 _ rfl
        have d5 : wr.cell? ⟨nb, no + j * 12 + 5, .none⟩ = some (.int .i64 ka) := hcell 5 _ rfl
        have d6 : wr.cell? ⟨nb, no + j * 12 + 6, .none⟩ = some (.int .i64 kb) := hcell 6 _ rfl
        have d7 : wr.cell? ⟨nb, no + j * 12 + 7, .none⟩ = some (.int .i64 kc) := hcell 7 _ rfl
        have d8 : wr.cell? ⟨nb, no + j * 12 + 8, .none⟩ = some (.int .i64 kd) := hcell 8 _ rfl
        have d9 : wr.cell? ⟨nb, no + j * 12 + 9, .none⟩ = some (.slice pa pl pc) := hcell 9 _ rfl
        have d10 : wr.cell? ⟨nb, no + j * 12 + 10, .none⟩ = some (.string nm) := hcell 10 _ rfl
        have d11 : wr.cell? ⟨nb, no + j * 12 + 11, .none⟩ = some (.slice qa ql qc) := hcell 11 _ rfl
        have HNS := Lib.hid hns
        have HRI := Lib.hid hri
        have HRW := Lib.hid hr
        have HL := Lib.hid hl
        have HOF := Lib.hid ho
        unfold ActP.cs at HO
        simp only at HO
        clear hcell hns hri hc hr hl ho hs hA HI
        go_wp2_with fail
        refine (HO.out wr).mono ?_
        rintro e w2 ⟨q7, hq7, rfl, hb2⟩
        clear HO d0 d1 d2 d3 d4 d5 d6 d7 d8 d9 d10 d11
        have HNS2 := Lib.hid (HNS.out.later hb2)
        have HRW2 := Lib.hid HRW.out
        clear HNS HRW
        have HKY := Lib.hid (fun W => key_any ⟨(q7 : Nat), wi, of_, nq, false, ⟨ka, kb, kc, kd⟩, pa, pl, pc, nm, qa, ql, qc⟩ rfl W)
        unfold ActP.cs at HKY
        simp only at HKY
        obtain ⟨wi7, hw7⟩ : ∃ v : Int, ((q7 : Nat) : Int) = v := ⟨_, rfl⟩
        rw [hw7] at HKY ⊢
        obtain ⟨w3, hwe⟩ : ∃ w3, w2.alloc (.cells #[.int .i64 wi7, .int .i64 wi, .int .i64 of_, .int .i64 nq, .bool false, .int .i64 ka, .int .i64 kb, .int .i64 kc, .int .i64 kd, .slice pa pl pc, .string nm, .slice qa ql qc] 44) = w3 := ⟨_, rfl⟩
        have hb3 : Below w2.heap.size w2 w3 := by rw [← hwe]; exact (Below.refl _ _).alloc (Nat.le_refl _) _
        obtain ⟨ab, hab⟩ : ∃ ab, w2.heap.size = ab := ⟨_, rfl⟩
        have hR3 : RecAt w3 ab #[.int .i64 wi7, .int .i64 wi, .int .i64 of_, .int .i64 nq, .bool false, .int .i64 ka, .int .i64 kb, .int .i64 kc, .int .i64 kd, .slice pa pl pc, .string nm, .slice qa ql qc] 44 := by rw [← hwe, ← hab]; exact RecAt.new _ _ _
        have hj3 : g.r ab = .junk := by rw [← hab]; exact HNS2.out.sto.dom _ (Nat.le_refl _)
        have HNS3 := Lib.hid (HNS2.out.later hb3)
        have HR3 := Lib.hid hR3
        clear hb2 hb3 hR3 HNS2
        have HC3 : Hid (∀ r v, (#[.int .i64 wi7, .int .i64 wi, .int .i64 of_, .int .i64 nq, .bool false, .int .i64 ka, .int .i64 kb, .int .i64 kc, .int .i64 kd, .slice pa pl pc, .string nm, .slice qa ql qc] : Array Value)[r]? = some v → w3.cell? ⟨ab, r, .none⟩ = some v) := Lib.hid fun r v hv => HR3.out.cell hv
        have d0 : w3.cell? ⟨ab, 0, .none⟩ = some (.int .i64 wi7) := HC3.out 0 _ rfl
        have d1 : w3.cell? ⟨ab, 1, .none⟩ = some (.int .i64 wi) := HC3.out 1 _ rfl
        have d2 : w3.cell? ⟨ab, 2, .none⟩ = some (.int .i64 of_) := HC3.out 2 _ rfl
        have d3 : w3.cell? ⟨ab, 3, .none⟩ = some (.int .i64 nq) := HC3.out 3 _ rfl
        have d4 : w3.cell? ⟨ab, 4, .none⟩ = some (.bool false) := HC3.out 4 _ rfl
        have d5 : w3.cell? ⟨ab, 5, .none⟩ = some (.int .i64 ka) := HC3.out 5 _ rfl
        have d6 : w3.cell? ⟨ab, 6, .none⟩ = some (.int .i64 kb) := HC3.out 6 _ rfl
        have d7 : w3.cell? ⟨ab, 7, .none⟩ = some (.int .i64 kc) := HC3.out 7 _ rfl
        have d8 : w3.cell? ⟨ab, 8, .none⟩ = some (.int .i64 kd) := HC3.out 8 _ rfl
        have d9 : w3.cell? ⟨ab, 9, .none⟩ = some (.slice pa pl pc) := HC3.out 9 _ rfl
        have d10 : w3.cell? ⟨ab, 10, .none⟩ = some (.string nm) := HC3.out 10 _ rfl
        have d11 : w3.cell? ⟨ab, 11, .none⟩ = some (.slice qa ql qc) := HC3.out 11 _ rfl
        go_upto_region 11 with fail
        clear hwe hab
        go_wp2_with fail
        refine (HKY.out w3).mono ?_
        rintro e w4 ⟨kq, hkq, rfl, hb4⟩
        clear HKY HC3 d0 d1 d2 d3 d4 d5 d6 d7 d8 d9 d10 d11
        obtain ⟨k, hk⟩ : ∃ k, keyW kq = k := ⟨_, rfl⟩
        obtain ⟨z, hz⟩ : ∃ z, w4.heap.size = z := ⟨_, rfl⟩
        rw [hk]
        obtain ⟨w5, hwe⟩ : ∃ w5, w4.alloc (.cells #[.int .i64 k.a, .int .i64 k.b, .int .i64 k.c, .int .i64 k.d] 27) = w5 := ⟨_, rfl⟩
        have hb5 : Below w4.heap.size w4 w5 := by rw [← hwe]; exact (Below.refl _ _).alloc (Nat.le_refl _) _
        have hK5 : KeyAt w5 w4.heap.size k := by rw [← hwe]; exact KeyAt.new w4 k
        rw [hz] at hK5
        have hb35 : Below w3.heap.size w3 w5 := hb4.trans (hb5.mono hb4.size)
        have hzj : g.r z = .junk := by rw [← hz]; exact HNS3.out.sto.dom _ hb4.size
        have HNS5 := Lib.hid (HNS3.out.later hb35)
        have HR5 := Lib.hid (HR3.out.later hb35)
        have HK5 := Lib.hid hK5
        have HLF := Lib.hid (left_any w5 b g S HNS5.out.sto (by have := HRI.out.room; have h1 := HRI.out.good.wf.room; omega) ⟨HRI.out.nn, by have := HRI.out.used; omega⟩)
        obtain ⟨lf, hlf⟩ : ∃ lf, max (S.room - S.used) 0 = lf := ⟨_, rfl⟩
        rw [hlf] at HLF
        have HLE := Lib.hid hlf
        clear hb4 hb5 hb35 hK5 HNS3 HR3 hlf
        unfold kv
        go_upto_region 12 with fail
        clear hwe hz
        go_wp2_with fail
        refine HLF.out.mono ?_
        rintro e w6 ⟨rfl, hb6⟩
        have HNS6 := Lib.hid (HNS5.out.later hb6)
        have HR6 := Lib.hid (HR5.out.later hb6)
        have HK6 := Lib.hid (HK5.out.later hb6)
        clear HLF HNS5 HR5 HK5 hb6
        have d0 : w6.cell? ⟨ab, 0, .none⟩ = some (.int .i64 wi7) := HR6.out.cell (i := 0) rfl
        have d9 : w6.cell? ⟨ab, 9, .none⟩ = some (.slice pa pl pc) := HR6.out.cell (i := 9) rfl
        obtain ⟨k0, k1, k2, k3⟩ := HK6.out.cells
        by_cases h2 : wi7 = 2
        · have b2 : (wi7 == 2) = true := by simp [h2]
          have HAP := Lib.hid (append_ri HNS6.out HRI.out (by omega) hkq pa pl pc l (HRW2.out.later HNS6.out.below) HL.out hp6)
          rw [hk] at HAP
          unfold kv at HAP
          go_wp2_with fail
          refine HAP.out.mono ?_
          rintro e w7 ⟨⟨c, rfl, hc6⟩, g', S', hn7, hr7, hjk⟩
          have HR7 := Lib.hid (HR6.out.held (hjk.block ab HR6.out.lt (.inl hj3)))
          obtain ⟨us, hu0, hu1, hus, hlf⟩ := room_facts hn7 hr7 hrm2
          have HUS := Lib.hid hus
          have HLF := Lib.hid hlf
          have HEND : Hid (∀ W, Below w7.heap.size w7 W → RmI w W b rm (j + 1)) := Lib.hid fun W hW => ⟨g', S', hn7.later hW, hr7⟩
          rw [HLE.out] at hc6
          clear hn7 hr7 hus hlf hjk HAP d0 d9 k0 k1 k2 k3
          go_wp2_with fail
          refine (HUS.out w7 (Below.refl _ _)).mono ?_
          rintro e w8 ⟨rfl, rfl⟩
          go_wp2_with fail
          refine (HLF.out w7 (Below.refl _ _)).mono ?_
          rintro e w8 ⟨rfl, hb8⟩
          have HB8 := Lib.hid hb8
          have d9 : w8.cell? ⟨ab, 9, .none⟩ = some (.slice pa pl pc) := (HR7.out.later hb8).cell (i := 9) rfl
          clear hb8
          go_wp2_with fail
          refine (HUS.out w8 HB8.out).mono ?_
          rintro e w9 ⟨rfl, rfl⟩
          by_cases hc : c = 6
          · have hlt := hc6 hc
            subst hc
            have b9 : decide ((pl : Int) ≤ lf) = false := by simp; omega
            go_wp2_with fail
            go_roundw
            case rel => exact ⟨j + 1, by go_num, by omega, Lib.hid (HEND.out _ HB8.out)⟩
            case measure => simp [intOf]; omega
          · have b9 : (c == 6) = false := by simp [hc]
            go_wp2_with fail
            go_roundw
            case rel => exact ⟨j + 1, by go_num, by omega, Lib.hid (HEND.out _ HB8.out)⟩
            case measure => simp [intOf]; omega
        · have b2 : (wi7 == 2) = false := by simp [h2]
          have HDE : Hid (∀ W, Below w6.heap.size w6 W → ∀ y, RefAt W y 0 → w6.heap.size ≤ y → Calls Try.prog 20 #[.pointer (some ⟨b, 0, .none⟩), .pointer (some ⟨y, 0, .none⟩), .agg #[.int .i64 wi7, .int .i64 wi, .int .i64 of_, .int .i64 nq, .bool false, .int .i64 ka, .int .i64 kb, .int .i64 kc, .int .i64 kd, .slice pa pl pc, .string nm, .slice qa ql qc]] W fun e w' => Deeded w b rm j e w') := Lib.hid fun W hW y hy hy6 => by
            have := deed_any w W b y (g.withR (setRole g.r y .own)) S rm j (HNS6.out.given hW hy6 hy.lt) HRI.out (by omega) hy (setRole_same _ _ _) ⟨wi7, wi, of_, nq, false, ⟨ka, kb, kc, kd⟩, pa, pl, pc, nm, qa, ql, qc⟩ rfl q7 hq7 hw7.symm l HRW2.out HL.out hp6 hn3 HOF.out
            exact this
          go_upto_region 16 with fail
-- REG RM16
          refine wp_region_ptab (L := fun ph => match ph with | 0 => [cV (.pointer (some ⟨b, 0, .none⟩)), refV w6.heap.size, cV (.agg #[.int .i64 wi7, .int .i64 wi, .int .i64 of_, .int .i64 nq, .bool false, .int .i64 ka, .int .i64 kb, .int .i64 kc, .int .i64 kd, .slice pa pl pc, .string nm, .slice qa ql qc]), nV] | _ => [cV (.pointer (some ⟨b, 0, .none⟩)), tV, cV (.agg #[.int .i64 wi7, .int .i64 wi, .int .i64 of_, .int .i64 nq, .bool false, .int .i64 ka, .int .i64 kb, .int .i64 kc, .int .i64 kd, .slice pa pl pc, .string nm, .slice qa ql qc]), bV1]) (jRm w w6 b rm j) [3] [(0, 0), (0, 0), (0, 0), (0, 1)] [[(5, none)], [], [(7, none)], [(44, some 0), (45, some 1), (46, some 2)]] 4 1 73 (by kernel_rfl) rfl rfl rfl (by kernel_rfl) (by kernel_rfl) (by decide) (by kernel_rfl) ?_ ?_ ?_ ?_ ?_
          · exact fun ph w1 w2 h hb => jRm_st ph h hb
          · exact Below.refl _ _
          · show ∀ i, i < 4 → _
            iterate 4 (refine fls ?_ ?_)
            · exact fl0
            · intro hne lo hi ph hran hp1 hp2 a w1 hJ hsz hs      -- 0: slot 44
              obtain ⟨rfl, rfl⟩ : 0 = lo ∧ 0 = hi := Prod.mk.inj (Option.some.inj hran)
              obtain rfl : ph = 0 := by omega
              obtain ⟨h0, _⟩ := hs
              have h0 : a.tmps.getD 5 undef = .pointer (some ⟨b, 0, .none⟩) := h0
              refine op_run rfl rfl (v := .pointer (some ⟨b, 0, .none⟩)) (w' := w1) ?_ rfl (Below.refl _ _)
              simp [execOp, Act.eval, h0, go_sem]
            · intro hne lo hi ph hran hp1 hp2 a w1 hJ hsz hs      -- 1: slot 45
              obtain ⟨rfl, rfl⟩ : 0 = lo ∧ 0 = hi := Prod.mk.inj (Option.some.inj hran)
              obtain rfl : ph = 0 := by omega
              refine op_call rfl rfl (f := 17) (args := #[.int .i64 0]) (by simp [execOp, Act.eval, resolve, go_sem]) ?_
              have hJ0 : Below w6.heap.size w6 w1 := hJ
              refine (rnew_any w1).mono ?_
              rintro e w' ⟨rfl, rfl⟩
              exact ⟨_, rfl, ⟨w1.heap.size, rfl, (MapKept.heap_alloc w1 _).1, hJ0.size⟩, (Below.refl _ _).alloc (Nat.le_refl _) _⟩
            · intro hne lo hi ph hran hp1 hp2 a w1 hJ hsz hs      -- 2: slot 46
              obtain ⟨rfl, rfl⟩ : 0 = lo ∧ 0 = hi := Prod.mk.inj (Option.some.inj hran)
              obtain rfl : ph = 0 := by omega
              obtain ⟨h0, _⟩ := hs
              have h0 : a.tmps.getD 7 undef = .pointer (some ⟨ab, 0, .none⟩) := h0
              have hJ0 : Below w6.heap.size w6 w1 := hJ
              have hq := HR6.out.later hJ0
              have c0 : w1.cell? ⟨ab, 0, .none⟩ = some (.int .i64 wi7) := hq.cell (i := 0) rfl
              have c1 : w1.cell? ⟨ab, 1, .none⟩ = some (.int .i64 wi) := hq.cell (i := 1) rfl
              have c2 : w1.cell? ⟨ab, 2, .none⟩ = some (.int .i64 of_) := hq.cell (i := 2) rfl
              have c3 : w1.cell? ⟨ab, 3, .none⟩ = some (.int .i64 nq) := hq.cell (i := 3) rfl
              have c4 : w1.cell? ⟨ab, 4, .none⟩ = some (.bool false) := hq.cell (i := 4) rfl
              have c5 : w1.cell? ⟨ab, 5, .none⟩ = some (.int .i64 ka) := hq.cell (i := 5) rfl
              have c6 : w1.cell? ⟨ab, 6, .none⟩ = some (.int .i64 kb) := hq.cell (i := 6) rfl
              have c7 : w1.cell? ⟨ab, 7, .none⟩ = some (.int .i64 kc) := hq.cell (i := 7) rfl
              have c8 : w1.cell? ⟨ab, 8, .none⟩ = some (.int .i64 kd) := hq.cell (i := 8) rfl
              have c9 : w1.cell? ⟨ab, 9, .none⟩ = some (.slice pa pl pc) := hq.cell (i := 9) rfl
              have c10 : w1.cell? ⟨ab, 10, .none⟩ = some (.string nm) := hq.cell (i := 10) rfl
              have c11 : w1.cell? ⟨ab, 11, .none⟩ = some (.slice qa ql qc) := hq.cell (i := 11) rfl
              refine op_run rfl rfl (v := .agg #[.int .i64 wi7, .int .i64 wi, .int .i64 of_, .int .i64 nq, .bool false, .int .i64 ka, .int .i64 kb, .int .i64 kc, .int .i64 kd, .slice pa pl pc, .string nm, .slice qa ql qc]) (w' := w1) ?_ rfl (Below.refl _ _)
              simp [execOp, Act.eval, h0, c0, c1, c2, c3, c4, c5, c6, c7, c8, c9, c10, c11, go_sem]
            · intro hne lo hi ph hran hp1 hp2 a w1 hJ hsz hs      -- 3: slot 47
              exact absurd (by decide) hne
          · show ∀ ph, ph < 1 → _
            iterate 1 (refine fls ?_ ?_)
            · exact fl0
            · intro i hi a w1 hJ hsz hs      -- heavy 0: op 3 slot 47
              obtain rfl : 3 = i := Option.some.inj hi
              obtain ⟨h0, h1, h2, _⟩ := hs
              have h0 : a.tmps.getD 44 undef = .pointer (some ⟨b, 0, .none⟩) := h0
              obtain ⟨y1, h1, m1, n1⟩ := h1
              have h2 : a.tmps.getD 46 undef = .agg #[.int .i64 wi7, .int .i64 wi, .int .i64 of_, .int .i64 nq, .bool false, .int .i64 ka, .int .i64 kb, .int .i64 kc, .int .i64 kd, .slice pa pl pc, .string nm, .slice qa ql qc] := h2
              have hcalm : ∀ (wq1 wq2 : World) (kk : Nat) (v0 : Value), kk ≠ 3 → VL [cV (.pointer (some ⟨b, 0, .none⟩)), refV w6.heap.size, cV (.agg #[.int .i64 wi7, .int .i64 wi, .int .i64 of_, .int .i64 nq, .bool false, .int .i64 ka, .int .i64 kb, .int .i64 kc, .int .i64 kd, .slice pa pl pc, .string nm, .slice qa ql qc]), nV] kk wq1 v0 → VL [cV (.pointer (some ⟨b, 0, .none⟩)), tV, cV (.agg #[.int .i64 wi7, .int .i64 wi, .int .i64 of_, .int .i64 nq, .bool false, .int .i64 ka, .int .i64 kb, .int .i64 kc, .int .i64 kd, .slice pa pl pc, .string nm, .slice qa ql qc]), bV1] kk wq2 v0 := Calm3.all (n := 0) ⟨.inr fun _ _ _ h => h, .inr fun _ _ _ _ => trivial, .inr fun _ _ _ h => h, .inl rfl, trivial⟩
              refine hv_call rfl rfl (f := 20) (args := #[.pointer (some ⟨b, 0, .none⟩), .pointer (some ⟨y1, 0, .none⟩), .agg #[.int .i64 wi7, .int .i64 wi, .int .i64 of_, .int .i64 nq, .bool false, .int .i64 ka, .int .i64 kb, .int .i64 kc, .int .i64 kd, .slice pa pl pc, .string nm, .slice qa ql qc]]) (by simp [execOp, Act.eval, resolve, h0, h1, h2, go_sem]) ?_
              have hJ0 : Below w6.heap.size w6 w1 := hJ
              refine (HDE.out w1 hJ0 _ m1 n1).mono ?_
              rintro e w' ⟨⟨v, rfl⟩, hst⟩
              exact ⟨_, rfl, ⟨v, rfl⟩, hst, hcalm _ _⟩
          intro f w1 hJ hv
          try simp only [Exit.then]
          simp only [putAll, List.foldl_cons, List.foldl_nil, Option.getD_some, Act.put, List.setIfInBounds_toArray, List.set_cons_succ, List.set_cons_zero]
          clear hv
          obtain ⟨g', S', hn7, hr7⟩ : RmI w w1 b rm (j + 1) := hJ
          obtain ⟨us, hu0, hu1, hus, hlf⟩ := room_facts hn7 hr7 hrm2
          have HUS := Lib.hid hus
          have HLF := Lib.hid hlf
          have HEND : Hid (∀ W, Below w1.heap.size w1 W → RmI w W b rm (j + 1)) := Lib.hid fun W hW => ⟨g', S', hn7.later hW, hr7⟩
          clear hn7 hr7 hus hlf d0 d9 k0 k1 k2 k3 HDE
          go_wp2_with fail
          refine (HUS.out w1 (Below.refl _ _)).mono ?_
          rintro e w8 ⟨rfl, rfl⟩
          go_wp2_with fail
          refine (HLF.out w1 (Below.refl _ _)).mono ?_
          rintro e w8 ⟨rfl, hb8⟩
          have HB8 := Lib.hid hb8
          clear hb8
          go_wp2_with fail
          refine (HUS.out w8 HB8.out).mono ?_
          rintro e w9 ⟨rfl, rfl⟩
          go_wp2_with fail
          go_roundw
          case rel => exact ⟨j + 1, by go_num, by omega, Lib.hid (HEND.out _ HB8.out)⟩
          case measure => simp [intOf]; omega
-- END RM16
      · have e : j = m := by omega
        subst e
        have HK := Lib.hid (known_any wr)
        obtain ⟨g, S, hns, hri⟩ := HI.out
        have HB := Lib.hid hns.below
        clear hns hri HI
        go_wp2_with fail
        refine HK.out.mono ?_
        rintro e w' ⟨rfl, hb⟩
        have HB2 := Lib.hid (HB.out.trans (hb.mono HB.out.size))
        clear hb
        go_wp2_with fail
        go_ret
        exact ⟨rfl, HB2.out⟩
end Go.Proofs.Ytgjdabneodkmpaa
