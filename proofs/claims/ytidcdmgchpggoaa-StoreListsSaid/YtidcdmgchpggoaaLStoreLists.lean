/- The law 'StoreLists', walked. -/
import Derived.Test.YtidcdmgchpggoaaStT
import Derived.Test.YtidcdmgchpggoaaNus
import Derived.Test.YtidcdmgchpggoaaRd
import Derived.Deep.RegionHeld3
namespace Go.Proofs.Ytidcdmgchpggoaa
open Go.RowKit Go.Proofs Go.Shelf Go.Sort
set_option linter.unusedVariables false
set_option linter.unusedSimpArgs false

theorem small64 (n : Nat) (h : n < 9223372036854775808) : IntKind.i64.wrap (n : Int) = n := IntWalk.i64_in _ (by omega)
theorem and63s (n : Int) : ∃ q : Nat, bits .and .i64 n 63 = q ∧ q < 64 := by
  have e : (BitVec.ofInt 64 n &&& BitVec.ofInt 64 63).toNat < 64 := by
    rw [BitVec.toNat_and]
    exact Nat.lt_of_le_of_lt Nat.and_le_right (by decide)
  refine ⟨(BitVec.ofInt 64 n &&& BitVec.ofInt 64 63).toNat, ?_, e⟩
  show IntKind.i64.wrap (((BitVec.ofInt 64 n &&& BitVec.ofInt 64 63).toNat : Nat) : Int) = _
  exact small64 _ (by omega)
theorem and7s : ∀ q : Nat, q < 64 → bits .and .i64 (q : Int) 7 = ((q % 8 : Nat) : Int) := by decide +kernel
/-- What the loop holds. -/
def LsI (w0 wr : World) (b tb : Nat) (n : Nat) : Prop := ∃ g S f, NSto w0 wr b g S ∧ LI S f n ∧ TB wr g.r tb f

set_option maxRecDepth 20000 in
set_option maxHeartbeats 2000000 in
theorem lists_walk (a0 : Option Addr) (m c0 : Nat) (zs : List Int) (a1 : Option Addr) (m1 c1 : Nat) (ds : List Bool) (kind : Int) (w : World) (h0 : VRow w a0 c0 (zs.map (Value.int .i64))) (hm : zs.length = m) (hm2 : m ≤ 40) (h1 : VRow w a1 c1 (ds.map Value.bool)) (hm1 : ds.length = m1) (hm3 : m1 ≤ 40) :
    Calls Try.prog 7 #[.slice a0 m c0, .slice a1 m1 c1, .int .i64 kind] w fun e w' => e = .returned (.bool true) ∧ Below w.heap.size w w' := by
  have hd0 : decide (40 < (m : Int)) = false := by simp; omega
  have hd1 : decide (40 < (m1 : Int)) = false := by simp; omega
  have HN := Lib.hid (new_any w 1000)
  have HR0 := Lib.hid h0
  have HR1 := Lib.hid h1
  have HM := Lib.hid hm
  have HM1 := Lib.hid hm1
  clear h0 h1 hm hm1
  obtain ⟨i0, hi, hz0, hz1, hz2⟩ := info_parts info_bool
  go_enter Try.func7, Try.ntmps7
  go_wp2_with fail
  refine HN.out.mono ?_
  rintro e w1 ⟨b, g1, rfl, s1, hb1, hlb1, hj1⟩
  clear HN
  have H1 : Hid (NSto w w1 b g1 (St.new 1000)) := Lib.hid ⟨s1, hb1, hj1⟩
  clear s1 hb1 hj1 hlb1
  go_wp2_with (at_make; refine wpList_make_full w1 rfl _ _ 53 rfl 0 4 i0 (.bool false) 1 Try.underlying53 hi hz0 hz1 _ _ _ _ 64 rfl rfl rfl rfl (by rw [hz2]; omega) (by unfold maxLen; omega) (Nat.zero_le _) ?_; intro w2 ho2 hg2)
  obtain ⟨r2, hn2, ht2⟩ := TB.made H1.out hg2 ho2
  have HI0 : Hid (LsI w w2 b w1.heap.size 0) := Lib.hid ⟨_, _, _, hn2, LI.new, ht2⟩
  generalize w1.heap.size = tb at *
  clear hn2 ht2 ho2 hg2 H1 hi hz0 hz1 hz2
  go_loopw [9] (fun i wr => ∃ j : Nat, i = .int .i64 j ∧ j ≤ m ∧ Hid (LsI w wr b tb (2 * j))) (fun i _ => m - (intOf i).toNat)
  case atStart => exact ⟨0, rfl, by omega, HI0⟩
  case round =>
    obtain ⟨j, rfl, hj, HI⟩ := hrel
    clear HI0
    by_cases hjm : j < m
    · obtain ⟨nb, no, rfl, hat⟩ := HR0.out.at (by rw [List.length_map]; have := HM.out; omega)
      obtain ⟨z, hz⟩ : ∃ z, zs[j]? = some z := ⟨_, List.getElem?_eq_getElem (by have := HM.out; omega)⟩
      have hcw := hat j (.int .i64 z) (by rw [List.getElem?_map, hz]; rfl)
      obtain ⟨g, S, f, hns, hli, htb⟩ := HI.out
      have hcell : wr.cell? ⟨nb, no + j, .none⟩ = some (.int .i64 z) := (Below.cell hns.below (World.block_lt_of_cell? w _ hcw)).trans hcw
      obtain ⟨q, hq, hq64⟩ := and63s z
      have hq7 := and7s q hq64
      have hmc : m ≤ c0 := by have h5 := HR0.out.1; rw [List.length_map] at h5; have := HM.out; omega
      have HNS := Lib.hid hns
      have HLI := Lib.hid hli
      have HTB := Lib.hid htb
      clear hns hli htb hat hz hcw
      obtain ⟨ka, hka⟩ : ∃ ka : Int, ((q / 8 : Nat) : Int) = ka := ⟨_, rfl⟩
      obtain ⟨kb, hkb⟩ : ∃ kb : Int, ((q % 8 : Nat) : Int) = kb := ⟨_, rfl⟩
      have HKN : Hid (keyN q = ⟨4, 1, ka, kb⟩) := Lib.hid (by unfold keyN; rw [hka, hkb])
      have hba : Below wr.heap.size wr (wr.alloc (.cells #[.int .i64 4, .int .i64 1, .int .i64 ka, .int .i64 kb] 27)) := (Below.refl _ _).alloc (Nat.le_refl _) _
      have HNS2 := Lib.hid (HNS.out.later hba)
      have HTB2 := Lib.hid (HTB.out.jk (Jk.of_below hba _))
      have HKA2 : Hid (KeyAt (wr.alloc (.cells #[.int .i64 4, .int .i64 1, .int .i64 ka, .int .i64 kb] 27)) wr.heap.size ⟨4, 1, ka, kb⟩) := Lib.hid (KeyAt.new wr ⟨4, 1, ka, kb⟩)
      have HJ2 : Hid (g.r wr.heap.size = .junk) := Lib.hid (HNS.out.sto.dom _ (Nat.le_refl _))
      have e8 : (q : Int) / 8 = ka := by omega
      have e7 : (q : Int) % 8 = kb := by omega
      clear hba
      go_upto_region 12 with fail
      clear hka hkb e8 e7 hq7 hcell HNS HTB
      generalize (wr.alloc (.cells #[.int .i64 4, .int .i64 1, .int .i64 ka, .int .i64 kb] 27)) = w3 at *
      generalize wr.heap.size = kp at *
      obtain ⟨k0, k1, k2, k3⟩ : w3.cell? ⟨kp, 0, .none⟩ = some (.int .i64 4) ∧ w3.cell? ⟨kp, 1, .none⟩ = some (.int .i64 1) ∧ w3.cell? ⟨kp, 2, .none⟩ = some (.int .i64 ka) ∧ w3.cell? ⟨kp, 3, .none⟩ = some (.int .i64 kb) := KeyAt.cells HKA2.out
      have HMK := Lib.hid (make_li HNS2.out HLI.out HTB2.out (by omega) hq64)
      rw [HKN.out] at HMK
      unfold kv at HMK
      go_wp2_with fail
      refine HMK.out.mono ?_
      rintro e w4 ⟨rfl, g4, S4, hn4, hl4, ht4, hk4⟩
      obtain ⟨hka4, hj4⟩ := hk4 kp _ HKA2.out HJ2.out
      have HN4 := Lib.hid hn4
      have HL4 := Lib.hid hl4
      have HT4 := Lib.hid ht4
      have HK4 := Lib.hid hka4
      have HJ4 := Lib.hid hj4
      clear HMK hn4 hl4 ht4 hk4 hka4 hj4 k0 k1 k2 k3 HNS2 HTB2 HKA2 HJ2 HLI
      have htc := HT4.out.cell hq64
      obtain ⟨fq, hfq⟩ : ∃ fq, f q = fq := ⟨_, rfl⟩
      rw [hfq] at htc ⊢
      clear hfq
      have hq64i : (q : Int) < 64 := by omega
      cases fq
      all_goals
        simp only [if_true, if_false, Bool.false_eq_true]
        go_upto_region 15 with fail
        obtain ⟨r5, hn5, ht5, hk5⟩ := TB.set HN4.out HT4.out hq64 true
        obtain ⟨hka5, hj5⟩ := hk5 kp _ HK4.out HJ4.out
        have HN5 := Lib.hid hn5
        have HT5 := Lib.hid ht5
        have HK5 := Lib.hid hka5
        have HJ5 := Lib.hid hj5
        have hfz := HT4.out.frozen q
        clear hn5 ht5 hk5 hka5 hj5
        go_upto_region 16 with fail
        clear htc hfz HN4 HT4 HK4 HJ4
        generalize (w4.setCell ⟨tb, q, none⟩ (.bool true)) = w5 at *
        by_cases hjd : j < m1
        · have hr1 := HR1.out
          obtain ⟨db, dof, rfl, hatd⟩ := hr1.at (by rw [List.length_map]; have := HM1.out; omega)
          obtain ⟨dv, hdv⟩ : ∃ dv, ds[j]? = some dv := ⟨_, List.getElem?_eq_getElem (by have := HM1.out; omega)⟩
          have hcd := hatd j (.bool dv) (by rw [List.getElem?_map, hdv]; rfl)
          have hcd5 : w5.cell? ⟨db, dof + j, .none⟩ = some (.bool dv) := (Below.cell HN5.out.below (World.block_lt_of_cell? w _ hcd)).trans hcd
          have hmc1 : m1 ≤ c1 := by have h5 := hr1.1; rw [List.length_map] at h5; have := HM1.out; omega
          have hjdi : (j : Int) < m1 := by omega
          clear hatd hdv hcd hr1
          cases dv
          · go_wp2_with fail
            go_roundw
            case rel => exact ⟨j + 1, by go_num, by omega, Lib.hid ⟨_, _, _, HN5.out, HL4.out.mono (by omega), HT5.out⟩⟩
            case measure => simp [intOf]; omega
          · obtain ⟨k0, k1, k2, k3⟩ : w5.cell? ⟨kp, 0, .none⟩ = some (.int .i64 4) ∧ w5.cell? ⟨kp, 1, .none⟩ = some (.int .i64 1) ∧ w5.cell? ⟨kp, 2, .none⟩ = some (.int .i64 ka) ∧ w5.cell? ⟨kp, 3, .none⟩ = some (.int .i64 kb) := KeyAt.cells HK5.out
            have HDR := Lib.hid (drop_li HN5.out HL4.out HT5.out (by omega) hq64 (by simp [setB]))
            rw [HKN.out] at HDR
            unfold kv at HDR
            go_wp2_with fail
            refine HDR.out.mono ?_
            rintro e w6 ⟨rfl, g6, S6, hn6, hl6, ht6, hk6⟩
            have HN6 := Lib.hid hn6
            have HL6 := Lib.hid hl6
            have HT6 := Lib.hid ht6
            have htc := HT6.out.cell hq64
            have hfz := HT6.out.frozen q
            obtain ⟨r7, hn7, ht7, hk7⟩ := TB.set HN6.out HT6.out hq64 false
            have HN7 := Lib.hid hn7
            have HT7 := Lib.hid ht7
            clear HDR hn6 hl6 ht6 hk6 hn7 ht7 hk7 k0 k1 k2 k3 hcd5
            go_wp2_with fail
            go_roundw
            case rel => exact ⟨j + 1, by go_num, by omega, Lib.hid ⟨_, _, _, HN7.out, HL6.out.mono (by omega), HT7.out⟩⟩
            case measure => simp [intOf]; omega
        · have hjdi : decide ((j : Int) < m1) = false := by simp; omega
          have hjd2 : (m1 : Int) ≤ j := by omega
          go_wp2_with fail
          go_roundw
          case rel => exact ⟨j + 1, by go_num, by omega, Lib.hid ⟨_, _, _, HN5.out, HL4.out.mono (by omega), HT5.out⟩⟩
          case measure => simp [intOf]; omega
    · have hjm2 : j = m := by omega
      obtain ⟨g, S, f, hns, hli, htb⟩ := HI.out
      have HNS := Lib.hid hns
      have HLI := Lib.hid hli
      have hks := keys_any wr b g S hns.sto hli.good.wf (by have := hli.good.sks; have := HM.out; omega) 4 1
      rw [hli.keys] at hks
      have HKS := Lib.hid hks
      have htc := fun (i : Nat) (hi : i < 64) => htb.cell hi
      have HTC := Lib.hid htc
      clear hns hli htb HI hks htc
      go_wp2_with fail
      refine HKS.out.mono ?_
      rintro e wk ⟨v1, rfl, ho, hb⟩
      obtain ⟨L, hL⟩ : ∃ L, thereL f = L := ⟨_, rfl⟩
      rw [hL] at ho
      have HLL := Lib.hid hL
      have hlen : L.length ≤ 64 := by rw [← hL]; exact thereL_len f
      have hL64 : ∀ q ∈ L, q < 64 := fun q hq => by rw [← hL] at hq; exact (thereL_mem.1 hq).1
      obtain ⟨ka, kc, rfl, hkc, hkk⟩ := ho.nums
      have HKK := Lib.hid hkk
      have HL64 := Lib.hid hL64
      have HNK := Lib.hid (HNS.out.later hb)
      have hTK : ∀ i, i < 64 → wk.cell? ⟨tb, i, .none⟩ = some (.bool (f i)) := fun i hi => (Below.cell hb (World.block_lt_of_cell? wr _ (HTC.out i hi))).trans (HTC.out i hi)
      have HTK := Lib.hid hTK
      obtain ⟨n, hn⟩ : ∃ n, L.length = n := ⟨_, rfl⟩
      rw [hn] at hlen hkc ⊢
      have HN := Lib.hid hn
      clear HKS ho hb hL hL64 hkk HNS HTC hTK hn
      go_wp2_with fail
      go_loopw [14, 16] (fun v i wq => ∃ j2 : Nat, i = .int .i64 j2 ∧ j2 ≤ n ∧ Hid (IOwn wk wq v (L.take j2))) (fun _ i _ => n - (intOf i).toNat)
      case atStart => exact ⟨0, rfl, by omega, Lib.hid (IOwn.nil _)⟩
      case round =>
        obtain ⟨j2, rfl, hj2, HO⟩ := hrel
        by_cases hjn : j2 < n
        · obtain ⟨q, hq⟩ : ∃ q, L[j2]? = some q := ⟨_, List.getElem?_eq_getElem (by have := HN.out; omega)⟩
          obtain ⟨kb, rfl, p2, p3⟩ := HKK.out j2 q hq
          have p2' := (Below.cell HO.out.2 (World.block_lt_of_cell? wk _ p2)).trans p2
          have p3' := (Below.cell HO.out.2 (World.block_lt_of_cell? wk _ p3)).trans p3
          have HTS : Hid (L.take (j2 + 1) = L.take j2 ++ [q]) := Lib.hid (takeN_snoc hq)
          have hq64 := HL64.out q (List.mem_of_getElem? hq)
          have HLT : Hid ((L.take j2).length + 1 ≤ 1000000) := Lib.hid (by rw [List.length_take]; omega)
          clear hq
          obtain ⟨ka, hka⟩ : ∃ ka : Int, ((q / 8 : Nat) : Int) = ka := ⟨_, rfl⟩
          obtain ⟨kd, hkd⟩ : ∃ kd : Int, ((q % 8 : Nat) : Int) = kd := ⟨_, rfl⟩
          rw [hka] at p2' p2
          rw [hkd] at p3' p3
          have HP2 := Lib.hid p2
          have HP3 := Lib.hid p3
          clear p2 p3
          have hsum : ka * 8 + kd = (q : Int) := by omega
          go_upto_region 25 with fail
          have HE : Hid (IntKind.i64.wrap (IntKind.i64.wrap (ka * 8) + kd) = (q : Int)) := Lib.hid (by rw [IntWalk.i64_in (ka * 8) (by omega), IntWalk.i64_in _ (by omega)]; exact hsum)
          go_region_held3 (fun w' => w'.cell? ⟨kb, j2 * 4 + 2, none⟩ = some (.int .i64 ka) ∧ w'.cell? ⟨kb, j2 * 4 + 3, none⟩ = some (.int .i64 kd)) (first | go_keep | exact ⟨(Below.cell o5.2 (World.block_lt_of_cell? wk _ HP2.out)).trans HP2.out, (Below.cell o5.2 (World.block_lt_of_cell? wk _ HP3.out)).trans HP3.out⟩)
            ((refine step_num (by rfl) _ _ (by rfl) _ _ (by rfl) _ (HO.out.later (below_drewN _ _)) _ q HE.out (by rfl) HLT.out ?_; intro v5 w5 o5 g5))
          go_wp2_with fail
          go_roundw
          case rel => exact ⟨j2 + 1, by go_num, by omega, Lib.hid (by rw [HTS.out]; exact o5)⟩
          case measure => simp [intOf]; omega
        · have hjn2 : j2 = n := by omega
          have HOL : Hid (IOwn wk wr u14 L) := Lib.hid (by have := HO.out; rwa [List.take_of_length_le (by have := HN.out; omega)] at this)
          have HTR : Hid (∀ i, i < 64 → wr.cell? ⟨tb, i, .none⟩ = some (.bool (f i))) := Lib.hid fun i hi => (Below.cell HOL.out.2 (World.block_lt_of_cell? wk _ (HTK.out i hi))).trans (HTK.out i hi)
          have HNR := Lib.hid (HNK.out.later HOL.out.2)
          clear HO HTK HNK HKK HL64
          go_wp2_with fail
          go_loopw [15, 17] (fun v i wq => ∃ j3 : Nat, i = .int .i64 j3 ∧ j3 ≤ 64 ∧ Hid (IOwn wr wq v ((List.range j3).filter f))) (fun _ i _ => 64 - (intOf i).toNat)
          case atStart => exact ⟨0, rfl, by omega, Lib.hid (IOwn.nil _)⟩
          case round =>
            obtain ⟨j3, rfl, hj3, HO⟩ := hrel
            by_cases hjn : j3 < 64
            · have hji : (j3 : Int) < 64 := by omega
              have htc := (Below.cell HO.out.2 (World.block_lt_of_cell? _ _ (HTR.out j3 hjn))).trans (HTR.out j3 hjn)
              have HTS : Hid (((List.range (j3 + 1)).filter f) = _) := Lib.hid (thereL_take f j3 hjn)
              have HLT : Hid (((List.range j3).filter f).length + 1 ≤ 1000000) := Lib.hid (by have := List.length_filter_le f (List.range j3); rw [List.length_range] at this; omega)
              cases hf : f j3 with
              | true =>
                rw [hf] at htc HTS
                go_wp2_with (at_builtin; refine wp_num rfl _ _ rfl _ _ rfl _ HO.out _ j3 rfl rfl HLT.out ?_; intro v5 w5 o5 g5 at5)
                go_roundw
                case rel => exact ⟨j3 + 1, by go_num, by omega, Lib.hid (by rw [HTS.out]; exact o5)⟩
                case measure => simp [intOf]; omega
              | false =>
                rw [hf] at htc HTS
                go_wp2_with fail
                go_roundw
                case rel => exact ⟨j3 + 1, by go_num, by omega, Lib.hid (by rw [HTS.out]; simpa using HO.out)⟩
                case measure => simp [intOf]; omega
            · have hj64 : j3 = 64 := by omega
              have hji : decide ((j3 : Int) < 64) = false := by simp; omega
              have hji2 : (64 : Int) ≤ j3 := by omega
              subst hj64
              have HU : Hid (IOwn _ wr u15 L) := Lib.hid (by have := HO.out; rw [show (List.range 64).filter f = L from HLL.out] at this; exact this)
              have HNS := Lib.hid (HNR.out.later HU.out.2)
              obtain ⟨g1, k1, rfl, r1⟩ := (HOL.out.later HU.out.2).nrow HN.out
              obtain ⟨g2, k2, rfl, r2⟩ := HU.out.nrow HN.out
              have HSA := Lib.hid (isame_any g1 g2 n _ _ L wr r1 r2 (by omega))
              have HKA : Hid (∀ w', Below wr.heap.size wr w' → ∀ kd im : Int, (kd ≠ 4 ∨ im ≠ 1) → Calls Try.prog 29 #[.pointer (some ⟨b, 0, .none⟩), .int .i64 kd, .int .i64 im] w' fun e w'' => (∃ a cap, e = .returned (.slice a 0 cap)) ∧ Below w'.heap.size w' w'') := Lib.hid fun w' hb kd im hne => by
                refine (keys_any w' b g S (HNS.out.later hb).sto HLI.out.good.wf (by have := HLI.out.good.sks; have := HM.out; omega) kd im).mono ?_
                rw [HLI.out.others hne]
                rintro e w'' ⟨v, rfl, ho, hb2⟩
                obtain ⟨a, cap, rfl⟩ := ho.none
                exact ⟨⟨a, cap, rfl⟩, hb2⟩
              have HB := Lib.hid HNS.out.below
              clear HO HOL HTR HNR HU r1 r2 HNS HLI
              by_cases hk : kind = 4
              · subst hk
                go_wp2_with fail
                refine HSA.out.mono ?_
                rintro e w5 ⟨rfl, hb5⟩
                have HB5 := Lib.hid hb5
                clear HSA hb5
                go_wp2_with fail
                refine (HKA.out _ HB5.out 4 0 (.inr (by decide))).mono ?_
                rintro e w6 ⟨⟨a6, c6, rfl⟩, hb6⟩
                have HB6 := Lib.hid (HB5.out.trans (hb6.mono HB5.out.size))
                clear hb6 HKA
                go_wp2_with fail
                refine (known_any _).mono ?_
                rintro e w7 ⟨rfl, hb7⟩
                have HB7 := Lib.hid (HB6.out.trans (hb7.mono HB6.out.size))
                clear hb7
                go_wp2_with fail
                go_ret
                exact ⟨rfl, HB.out.trans (HB7.out.mono HB.out.size)⟩
              · have hk4 : (kind == 4) = false := beq_eq_false_iff_ne.2 hk
                go_wp2_with fail
                refine HSA.out.mono ?_
                rintro e w5 ⟨rfl, hb5⟩
                have HB5 := Lib.hid hb5
                clear HSA hb5
                go_wp2_with fail
                refine (HKA.out _ HB5.out kind 1 (.inl hk)).mono ?_
                rintro e w6 ⟨⟨a6, c6, rfl⟩, hb6⟩
                have HB6 := Lib.hid (HB5.out.trans (hb6.mono HB5.out.size))
                clear hb6
                go_wp2_with fail
                refine (HKA.out _ HB6.out 4 0 (.inr (by decide))).mono ?_
                rintro e w8 ⟨⟨a8, c8, rfl⟩, hb8⟩
                have HB8 := Lib.hid (HB6.out.trans (hb8.mono HB6.out.size))
                clear hb8 HKA
                go_wp2_with fail
                refine (known_any _).mono ?_
                rintro e w7 ⟨rfl, hb7⟩
                have HB7 := Lib.hid (HB8.out.trans (hb7.mono HB8.out.size))
                clear hb7
                go_wp2_with fail
                go_ret
                exact ⟨rfl, HB.out.trans (HB7.out.mono HB.out.size)⟩
theorem VRow.of_int {w : World} {a : Option Addr} {cap : Nat} {zs : List Int} (h : RowE w 1 (IntE .i64) a cap zs) : VRow w a cap (zs.map (Value.int .i64)) :=
  ⟨by rw [List.length_map]; exact h.1, h.2.2.1, fun x hx i v hv => by
    rw [List.getElem?_map] at hv
    cases hz : zs[i]? with
    | none => rw [hz] at hv; cases hv
    | some z =>
      rw [hz] at hv
      cases hv
      obtain ⟨u, h1, h2⟩ := h.one hx hz
      have h3 : [u] = [Value.int .i64 z] := h2.1
      cases h3
      exact h1⟩
theorem VRow.of_bool {w : World} {a : Option Addr} {cap : Nat} {ds : List Bool} (h : RowE w 1 BoolE a cap ds) : VRow w a cap (ds.map Value.bool) :=
  ⟨by rw [List.length_map]; exact h.1, h.2.2.1, fun x hx i v hv => by
    rw [List.getElem?_map] at hv
    cases hz : ds[i]? with
    | none => rw [hz] at hv; cases hv
    | some z =>
      rw [hz] at hv
      cases hv
      obtain ⟨u, h1, h2⟩ := h.one hx hz
      have h3 : [u] = [Value.bool z] := h2
      cases h3
      exact h1⟩
theorem storeLists_walk (a0 : Option Addr) (c0 : Nat) (zs : List Int) (a1 : Option Addr) (c1 : Nat) (ds : List Bool) (kind : Int) (w : World) (h0 : RowE w 1 (IntE .i64) a0 c0 zs) (h1 : RowE w 1 BoolE a1 c1 ds) :
    Calls Try.prog 7 #[.slice a0 zs.length c0, .slice a1 ds.length c1, .int .i64 kind] w fun e w' => e = .returned (.bool true) ∧ Below w.heap.size w w' := by
  obtain ⟨m, hm⟩ : ∃ m, zs.length = m := ⟨_, rfl⟩
  obtain ⟨m1, hm1⟩ : ∃ m1, ds.length = m1 := ⟨_, rfl⟩
  rw [hm, hm1]
  by_cases hl : m ≤ 40
  · by_cases hl1 : m1 ≤ 40
    · exact lists_walk a0 m c0 zs a1 m1 c1 ds kind w (VRow.of_int h0) hm hl (VRow.of_bool h1) hm1 hl1
    · have hd0 : decide (40 < (m : Int)) = false := by simp; omega
      have hd1 : decide (40 < (m1 : Int)) = true := by simp; omega
      have hc : m ≤ c0 := by have := h0.1; omega
      have hc1 : m1 ≤ c1 := by have := h1.1; omega
      clear h0 h1 hm hm1
      have HK := Lib.hid (known_any w)
      go_enter Try.func7, Try.ntmps7
      go_wp2_with fail
      refine HK.out.mono ?_
      rintro e w1 ⟨rfl, hb1⟩
      go_wp2_with fail
      go_ret
      exact ⟨rfl, hb1⟩
  · have hd0 : decide (40 < (m : Int)) = true := by simp; omega
    have hc : m ≤ c0 := by have := h0.1; omega
    have hc1 : m1 ≤ c1 := by have := h1.1; omega
    clear h0 h1 hm hm1
    have HK := Lib.hid (known_any w)
    go_enter Try.func7, Try.ntmps7
    go_wp2_with fail
    refine HK.out.mono ?_
    rintro e w1 ⟨rfl, hb1⟩
    go_wp2_with fail
    go_ret
    exact ⟨rfl, hb1⟩
end Go.Proofs.Ytidcdmgchpggoaa
