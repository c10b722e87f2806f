/- The law 'FrameSeeks', walked. -/
import Derived.Test.YtnecbhioekmcgaaFrK
import Derived.Test.YtnecbhioekmcgaaFrE
import Derived.Test.YtnecbhioekmcgaaCrcKnown
namespace Go.Proofs.Ytnecbhioekmcgaa
open Go.RowKit
set_option linter.unusedVariables false
set_option linter.unusedSimpArgs false

theorem seek_nil (p : Int) : seekA [] p = -1 := by unfold seekA; rw [show ([] : List UInt8).length - p.toNat = 0 by simp]; rfl
theorem seek_found {B : List UInt8} {m : Nat} {p : Int} (hp : p ≤ 0) (h : okAt B m = true) (hm : m < B.length) : 0 ≤ seekA B p ∧ seekA B p ≤ m := by
  unfold seekA
  rw [show p.toNat = 0 by omega]
  exact seekF_le h _ 0 (by omega) (by omega)
theorem ok_lay {e : En} (h : e.right = true) (l : List UInt8) : okAt (l ++ layL e) l.length = true := by
  unfold okAt
  rw [List.drop_left]
  have := take_lay h []
  rw [List.append_nil] at this
  rw [this]; rfl

set_option maxRecDepth 100000 in
set_option maxHeartbeats 3200000 in
theorem seeks_known (e : En) (a0 ad : Option Addr) (m cap n c : Nat) (p : Int) (w : World) (hn2 : n ≤ 9223372036854775807) (hn : e.data.length = n) (hb : 100 < m ∨ e.right = false) :
    Calls Try.prog 7 #[.slice a0 m cap, .agg #[.int .i64 e.tag, .int .i64 e.seq, .slice ad n c], .int .i64 p] w fun x w' => x = .returned (.bool true) ∧ Below w.heap.size w w' := by
  have HB : Hid (Below w.heap.size w (w.alloc (.cells #[.int .i64 e.tag, .int .i64 e.seq, .slice ad n c] 24))) := Lib.hid ((Below.refl _ _).alloc (Nat.le_refl _) _)
  have HRR := Lib.hid (rright_any e.tag e.seq ad n c (w.alloc (.cells #[.int .i64 e.tag, .int .i64 e.seq, .slice ad n c] 24)) hn2)
  rcases (show 100 < (m : Int) ∨ (decide (100 < (m : Int)) = false ∧ e.right = false) by
    rcases hb with h | h
    · exact .inl (by omega)
    · by_cases h2 : 100 < (m : Int)
      · exact .inl h2
      · exact .inr ⟨decide_eq_false h2, h⟩) with h | ⟨h, h2⟩
  · clear hb HRR hn
    go_enter Try.func7, Try.ntmps7
    go_wp2_with fail
    refine (known_any _).mono ?_
    rintro x w2 ⟨rfl, hb2⟩
    go_wp2_with fail
    go_ret
    exact ⟨rfl, HB.out.trans (hb2.mono HB.out.size)⟩
  · unfold En.right at h2
    rw [hn] at h2
    rw [h2] at HRR
    clear hb hn h2
    go_enter Try.func7, Try.ntmps7
    go_wp2_with fail
    refine HRR.out.mono ?_
    rintro x w1 ⟨rfl, hb1⟩
    have HB1 := Lib.hid (HB.out.trans (hb1.mono HB.out.size))
    go_wp2_with fail
    refine (known_any _).mono ?_
    rintro x w2 ⟨rfl, hb2⟩
    go_wp2_with fail
    go_ret
    exact ⟨rfl, HB1.out.trans (hb2.mono HB1.out.size)⟩

set_option maxRecDepth 100000 in
set_option maxHeartbeats 6400000 in
theorem seeks_walk (e : En) (a0 ad : Option Addr) (m cap n c : Nat) (l : List UInt8) (p : Int) (w : World) (hr0 : Row w a0 cap l) (hl : l.length = m) (hm : m ≤ 100) (hr : Row w ad c e.data) (hn : e.data.length = n) (hright : e.right = true)
    (hp0 : -9223372036854775808 ≤ p) (hp1 : p ≤ 9223372036854775807) :
    Calls Try.prog 7 #[.slice a0 m cap, .agg #[.int .i64 e.tag, .int .i64 e.seq, .slice ad n c], .int .i64 p] w fun x w' => x = .returned (.bool true) ∧ Below w.heap.size w w' := by
  have hn9 := (rightE_iff.1 hright).2.2.2.2
  rw [hn] at hn9
  have HB : Hid (Below w.heap.size w (w.alloc (.cells #[.int .i64 e.tag, .int .i64 e.seq, .slice ad n c] 24))) := Lib.hid ((Below.refl _ _).alloc (Nat.le_refl _) _)
  have HRC := Lib.hid (RecAt.new w #[.int .i64 e.tag, .int .i64 e.seq, .slice ad n c] 24)
  have HRR := Lib.hid (rright_any e.tag e.seq ad n c (w.alloc (.cells #[.int .i64 e.tag, .int .i64 e.seq, .slice ad n c] 24)) (by omega))
  have hrE : rightE e.tag e.seq n = true := by have := hright; unfold En.right at this; rw [hn] at this; exact this
  rw [hrE] at HRR
  have HLY := Lib.hid (fun (w1 : World) (hb : Below w.heap.size w w1) => rlay_any e ad c n w1 (hr.later hb) hn (by omega))
  rw [layA_yes hright] at HLY
  obtain ⟨B, hB⟩ : ∃ B, l ++ layL e = B := ⟨_, rfl⟩
  have HBE := Lib.hid hB
  have hBl : B.length = m + (n + 22) := by rw [← hB, List.length_append, layL_len, hl, hn]
  have HBL := Lib.hid hBl
  have HOK : Hid (okAt B m = true) := Lib.hid (by rw [← hB, ← hl]; exact ok_lay hright l)
  have HR0 := Lib.hid hr0
  have HL := Lib.hid hl
  have HLL : Hid ((layL e).length = n + 22) := Lib.hid (by rw [layL_len, hn])
  have hd : decide (100 < (m : Int)) = false := by simp; omega
  have HSN : Hid (seekA B p = seekF (m + (n + 22) - p.toNat) B p.toNat) := Lib.hid (by unfold seekA; rw [hBl])
  have HSF : Hid (p ≤ 0 → 0 ≤ seekA B p ∧ seekA B p ≤ m) := Lib.hid fun h => seek_found h HOK.out (by omega)
  clear hr0 hl hr hn hright hrE hB hBl HOK
  rcases (show p < 0 ∨ (p ≤ 0 ∧ 0 ≤ p) ∨ 0 < p by omega) with hp | ⟨hp, hpp⟩ | hp
  all_goals
   go_enter Try.func7, Try.ntmps7
   go_wp2_with fail
   refine HRR.out.mono ?_
   rintro x w1 ⟨rfl, hb1⟩
   have HRC1 := Lib.hid (HRC.out.later hb1)
   have HB1 := Lib.hid (HB.out.trans (hb1.mono HB.out.size))
   obtain ⟨c0, c1, c2⟩ := HRC1.out.c3
   go_wp2_with fail
   refine (HLY.out w1 HB1.out).mono ?_
   rintro x w2 ⟨v2, rfl, o2⟩
   simp only at o2 ⊢
   have HB2 := Lib.hid (HB1.out.trans (o2.below.mono HB1.out.size))
   obtain ⟨a2, k2, rfl, r2⟩ := o2.row_n HLL.out
   clear o2 c0 c1 c2 hb1
   have he := own_empty (Below.refl w2.heap.size w2)
   have hba : Below w2.heap.size w2 (w2.alloc (.cells #[] 5)) := (Below.refl _ _).alloc (Nat.le_refl _) _
   have R2 := Lib.hid r2
   clear r2
   go_wp2_with (first
     | (at_builtin; refine wp_row rfl _ _ rfl _ _ rfl w2 he a0 cap m l ((HR0.out.later HB2.out).later hba) HL.out rfl (by have := HL.out; simp; omega) ?_; intro v3 w3 o3)
     | (at_builtin; refine wp_row rfl _ _ rfl _ _ rfl w2 o3 a2 k2 (n + 22) (layL e) (R2.out.later o3.below) HLL.out rfl (by have := HL.out; have := HLL.out; simp; omega) ?_; intro v4 w4 o4))
   have hBB : ([] ++ l) ++ layL e = B := by rw [List.nil_append]; exact HBE.out
   rw [hBB] at o4
   obtain ⟨a4, k4, rfl, r4⟩ := o4.row_n HBL.out
   have HB4 := Lib.hid (HB2.out.trans (o4.below.mono HB2.out.size))
   have R4 := Lib.hid r4
   clear o4 r4 o3 he hba hBB
   go_wp2_with fail
   go_loopw [10, 11] (fun wa i wr => ∃ (q : Nat), i = .int .i64 q ∧ (q : Int) ≤ 9223372036854775807 ∧ Below w4.heap.size w4 wr ∧ ((wa = .int .i64 (-1) ∧ Hid (seekA B p = seekF (m + (n + 22) - q) B q)) ∨ (∃ k : Nat, wa = .int .i64 k ∧ Hid (seekA B p = k)))) (fun _ i _ => m + (n + 22) - (intOf i).toNat)
   case atStart =>
     refine ⟨p.toNat, congrArg (Value.int IntKind.i64) (by omega), by omega, Below.refl _ _, .inl ⟨rfl, HSN⟩⟩
   case round =>
     obtain ⟨q, rfl, hq9, hb, hrel⟩ := hrel
     have HB5 := Lib.hid (HB4.out.trans (hb.mono HB4.out.size))
     have R5 := Lib.hid (R4.out.later hb)
     have HBR := Lib.hid hb
     clear hb
     by_cases hlt : (q : Int) < (m : Int) + ((n : Int) + 22)
     · rcases hrel with ⟨rfl, HA⟩ | ⟨k, rfl, HA⟩
       · have hql : q ≤ B.length := by have := HBL.out; omega
         have HK := Lib.hid (rtake_any a4 (m + (n + 22)) k4 B q wr R5.out HBL.out (by omega) (by omega) (by omega))
         obtain ⟨f, hf⟩ : ∃ f, m + (n + 22) - q = f + 1 := ⟨m + (n + 22) - q - 1, by omega⟩
         have HF : Hid (m + (n + 22) - (q + 1) = f) := Lib.hid (by omega)
         rcases takeM_two (B.drop q) with ⟨cd, h1, hcd⟩ | ⟨e', h1, h2, h3⟩
         · rw [takeA_err hql h1 hcd] at HK
           have HNX : Hid (seekA B p = seekF f B (q + 1)) := Lib.hid (by rw [HA.out, hf]; exact seekF_no (by unfold okAt; rw [h1]; exact decide_eq_false hcd))
           have hcb : (cd == 0) = false := beq_eq_false_iff_ne.2 hcd
           clear h1 HA hf
           go_wp2_with fail
           refine HK.out.mono ?_
           rintro e1 w5 ⟨a, cc, rfl, hr1, hb1, hx1⟩
           unfold entV noE
           simp only [List.length_nil]
           have HBX := Lib.hid (HBR.out.trans (hb1.mono HBR.out.size))
           go_wp2_with fail
           go_roundw
           case rel => exact ⟨q + 1, by go_num, by omega, HBX.out.alloc HBX.out.size _, .inl ⟨rfl, Lib.hid (by rw [HNX.out, HF.out])⟩⟩
           case measure => simp [intOf]; omega
         · rw [takeA_ok hql h1] at HK
           have HNX : Hid (seekA B p = q) := Lib.hid (by rw [HA.out, hf]; exact seekF_yes (by unfold okAt; rw [h1]; rfl))
           clear h1 h2 h3 HA hf
           go_wp2_with fail
           refine HK.out.mono ?_
           rintro e1 w5 ⟨a, cc, rfl, hr1, hb1, hx1⟩
           unfold entV
           simp only
           have HBX := Lib.hid (HBR.out.trans (hb1.mono HBR.out.size))
           go_wp2_with fail
           go_roundw
           case rel => exact ⟨q + 1, by go_num, by omega, HBX.out.alloc HBX.out.size _, .inr ⟨q, rfl, HNX⟩⟩
           case measure => simp [intOf]; omega
       · have HW : Hid (seekA B p = (k : Int)) := HA
         have hW : p ≤ 0 → 0 ≤ (k : Int) ∧ (k : Int) ≤ m := fun h => by have := HSF.out h; rw [HA.out] at this; exact this
         have hdk : decide ((k : Int) < 0) = false := by simp
         clear HA
         go_wp2_with fail
         refine (seek_any a4 _ k4 B p wr R5.out HBL.out (by omega) hp0 hp1).mono ?_
         rw [HW.out]
         rintro y w6 ⟨rfl, hb6⟩
         have HB6 := Lib.hid (HB5.out.trans (hb6.mono HB5.out.size))
         have R6 := Lib.hid (R5.out.later hb6)
         clear hb6
         first
         | (have hp' : 0 < p := by omega
            go_wp2_with fail
            refine (seek_any .none 0 0 [] p w6 (Row.none _) rfl (by omega) hp0 hp1).mono ?_
            rw [seek_nil]
            rintro y w7 ⟨rfl, hb7⟩
            have HB7 := Lib.hid (HB6.out.trans (hb7.mono HB6.out.size))
            go_wp2_with fail
            refine (known_any _).mono ?_
            rintro y w8 ⟨rfl, hb8⟩
            go_wp2_with fail
            go_ret
            exact ⟨rfl, HB7.out.trans (hb8.mono HB7.out.size)⟩)
         | (have hp' : p ≤ 0 := by omega
            obtain ⟨hW1, hW2⟩ := hW hp'
            have hdp : decide (0 < p) = false := decide_eq_false (by omega)
            go_wp2_with fail
            refine (seek_any a4 _ k4 B p w6 R6.out HBL.out (by omega) hp0 hp1).mono ?_
            rw [HW.out]
            rintro y w7 ⟨rfl, hb7⟩
            have HB7 := Lib.hid (HB6.out.trans (hb7.mono HB6.out.size))
            have R7 := Lib.hid (R6.out.later hb7)
            clear hb7
            go_wp2_with fail
            refine (seek_any a4 _ k4 B p w7 R7.out HBL.out (by omega) hp0 hp1).mono ?_
            rw [HW.out]
            rintro y w8 ⟨rfl, hb8⟩
            have HB8 := Lib.hid (HB7.out.trans (hb8.mono HB7.out.size))
            clear hb8
            go_wp2_with fail
            refine (seek_any .none 0 0 [] p w8 (Row.none _) rfl (by omega) hp0 hp1).mono ?_
            rw [seek_nil]
            rintro y w9 ⟨rfl, hb9⟩
            have HB9 := Lib.hid (HB8.out.trans (hb9.mono HB8.out.size))
            clear hb9
            go_wp2_with fail
            refine (known_any _).mono ?_
            rintro y w10 ⟨rfl, hb10⟩
            go_wp2_with fail
            go_ret
            exact ⟨rfl, HB9.out.trans (hb10.mono HB9.out.size)⟩)
     · have hdl : decide ((q : Int) < (m : Int) + ((n : Int) + 22)) = false := decide_eq_false hlt
       obtain ⟨W, rfl, HW⟩ : ∃ W : Int, u10 = .int .i64 W ∧ Hid (seekA B p = W) := by
         rcases hrel with ⟨rfl, HA⟩ | ⟨k, rfl, HA⟩
         · exact ⟨-1, rfl, Lib.hid (by rw [HA.out, show m + (n + 22) - q = 0 by omega]; rfl)⟩
         · exact ⟨k, rfl, HA⟩
       have hW : p ≤ 0 → 0 ≤ W ∧ W ≤ m := fun h => by have := HSF.out h; rw [HW.out] at this; exact this
       clear hrel
       go_wp2_with fail
       refine (seek_any a4 _ k4 B p wr R5.out HBL.out (by omega) hp0 hp1).mono ?_
       rw [HW.out]
       rintro y w6 ⟨rfl, hb6⟩
       have HB6 := Lib.hid (HB5.out.trans (hb6.mono HB5.out.size))
       have R6 := Lib.hid (R5.out.later hb6)
       clear hb6
       first
       | (have hp' : 0 < p := by omega
          go_wp2_with fail
          refine (seek_any .none 0 0 [] p w6 (Row.none _) rfl (by omega) hp0 hp1).mono ?_
          rw [seek_nil]
          rintro y w7 ⟨rfl, hb7⟩
          have HB7 := Lib.hid (HB6.out.trans (hb7.mono HB6.out.size))
          go_wp2_with fail
          refine (known_any _).mono ?_
          rintro y w8 ⟨rfl, hb8⟩
          go_wp2_with fail
          go_ret
          exact ⟨rfl, HB7.out.trans (hb8.mono HB7.out.size)⟩)
       | (have hp' : p ≤ 0 := by omega
          obtain ⟨hW1, hW2⟩ := hW hp'
          have hdp : decide (0 < p) = false := decide_eq_false (by omega)
          go_wp2_with fail
          refine (seek_any a4 _ k4 B p w6 R6.out HBL.out (by omega) hp0 hp1).mono ?_
          rw [HW.out]
          rintro y w7 ⟨rfl, hb7⟩
          have HB7 := Lib.hid (HB6.out.trans (hb7.mono HB6.out.size))
          have R7 := Lib.hid (R6.out.later hb7)
          clear hb7
          go_wp2_with fail
          refine (seek_any a4 _ k4 B p w7 R7.out HBL.out (by omega) hp0 hp1).mono ?_
          rw [HW.out]
          rintro y w8 ⟨rfl, hb8⟩
          have HB8 := Lib.hid (HB7.out.trans (hb8.mono HB7.out.size))
          clear hb8
          go_wp2_with fail
          refine (seek_any .none 0 0 [] p w8 (Row.none _) rfl (by omega) hp0 hp1).mono ?_
          rw [seek_nil]
          rintro y w9 ⟨rfl, hb9⟩
          have HB9 := Lib.hid (HB8.out.trans (hb9.mono HB8.out.size))
          clear hb9
          go_wp2_with fail
          refine (known_any _).mono ?_
          rintro y w10 ⟨rfl, hb10⟩
          go_wp2_with fail
          go_ret
          exact ⟨rfl, HB9.out.trans (hb10.mono HB9.out.size)⟩)

theorem frameSeeks_walk (a0 : Option Addr) (m cap : Nat) (l : List UInt8) (cs : Array Value) (e : En) (p : Int) (w : World) (hr0 : Row w a0 cap l) (hl : l.length = m) (he : EnE w cs.toList e) (w2 : (Lit.int .i64 p).wf = true) :
    Calls Try.prog 7 #[.slice a0 m cap, .agg cs, .int .i64 p] w fun x w' => x = .returned (.bool true) ∧ Below w.heap.size w w' := by
  obtain ⟨a, c, hcs, hr⟩ := he
  obtain rfl : cs = #[.int .i64 e.tag, .int .i64 e.seq, .slice a e.data.length c] := by
    rw [← Array.toArray_toList (xs := cs), hcs]
  have hp := wf_int w2
  have hl9 : e.data.length ≤ 9223372036854775807 := by have := hr.1; have := hr.2.1; unfold maxLen at this; omega
  by_cases hb : 100 < m ∨ e.right = false
  · exact seeks_known e a0 a m cap _ c p w hl9 rfl hb
  · exact seeks_walk e a0 a m cap _ c l p w hr0 hl (by omega) hr rfl (by cases h : e.right with | true => rfl | false => exact absurd (.inr h) hb) hp.1 hp.2
end Go.Proofs.Ytnecbhioekmcgaa
