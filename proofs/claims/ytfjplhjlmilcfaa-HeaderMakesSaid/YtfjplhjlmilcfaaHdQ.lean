/- Records of an image: the law's Make. -/
import Derived.Test.YtfjplhjlmilcfaaHdO
import Derived.Test.YtfjplhjlmilcfaaHdP
import Derived.Test.YtfjplhjlmilcfaaZi
import Derived.BigRegion
namespace Go.Proofs.Ytfjplhjlmilcfaa
open Go.RowKit Go.Proofs
set_option linter.unusedVariables false
set_option linter.unusedSimpArgs false
set_option linter.unnecessarySimpa false

/-- What Make answers: a record that may be, no two of its marks of one name. -/
def MadeH (w : World) (e : Ending) (w' : World) : Prop := ∃ H a c n, e = .returned (hdA H a n c) ∧ HdOk H ∧ Apart H.marks ∧ H.marks.length = n ∧ n ≤ 16 ∧ MOwn w w' (.slice a n c) H.marks
theorem nm_is (j : Nat) (h : j < 16) (W : World) : (convert 27 9 (.slice (some ⟨W.heap.size, 0, none⟩) 1 1)).run Try.prog (W.alloc (.cells #[.int .u8 (97 + (j : Int))] 5)).drew = .ok (.string ⟨#[UInt8.ofNat (97 + j)]⟩) (W.alloc (.cells #[.int .u8 (97 + (j : Int))] 5)).drew := by
  have e : B8 (UInt8.ofNat (97 + j)) = .int .u8 (97 + (j : Int)) := by
    unfold B8
    rw [UInt8.toNat_ofNat', Nat.mod_eq_of_lt (by omega)]
    simp
  have h1 := row_new W [UInt8.ofNat (97 + j)] (by simp)
  simp only [List.map_cons, List.map_nil, e] at h1
  exact conv_row_n (h1.later (Below.refl _ _).drew) (n := 1) rfl
theorem nm_is2 (j : Nat) (h : j < 16) (W : World) (x : Obj) : (convert 27 9 (.slice (some ⟨W.heap.size, 0, none⟩) 1 1)).run Try.prog ((W.alloc (.cells #[.int .u8 (97 + (j : Int))] 5)).alloc x).drew = .ok (.string ⟨#[UInt8.ofNat (97 + j)]⟩) ((W.alloc (.cells #[.int .u8 (97 + (j : Int))] 5)).alloc x).drew := by
  have e : B8 (UInt8.ofNat (97 + j)) = .int .u8 (97 + (j : Int)) := by
    unfold B8
    rw [UInt8.toNat_ofNat', Nat.mod_eq_of_lt (by omega)]
    simp
  have h1 := row_new W [UInt8.ofNat (97 + j)] (by simp)
  simp only [List.map_cons, List.map_nil, e] at h1
  exact conv_row_n (h1.later ((Below.refl _ _).alloc (Nat.le_refl _) x).drew) (n := 1) rfl
theorem nm_is3 (j : Nat) (h : j < 16) (W : World) (x : Obj) : (convert 27 9 (.slice (some ⟨W.heap.size + 1, 0, none⟩) 1 1)).run Try.prog ((W.alloc x).alloc (.cells #[.int .u8 (97 + (j : Int))] 5)).drew = .ok (.string ⟨#[UInt8.ofNat (97 + j)]⟩) ((W.alloc x).alloc (.cells #[.int .u8 (97 + (j : Int))] 5)).drew := by
  have h1 := nm_is j h (W.alloc x)
  rw [show (W.alloc x).heap.size = W.heap.size + 1 by simp] at h1
  exact h1
theorem wrap_97 (j : Nat) (h : j < 16) : IntKind.i64.wrap (97 + (j : Int)) = 97 + j ∧ IntKind.u8.wrap (97 + (j : Int)) = 97 + j := by
  constructor
  · rw [IntKind.wrap_i64]; omega
  · simp [IntKind.wrap, IntKind.bits, IntKind.signed]; omega
set_option maxRecDepth 20000 in
set_option maxHeartbeats 6400000 in
theorem makeH_any (sz od un ct : Int) (ad : Option Addr) (n c : Nat) (zs : List Int) (w : World) (hr : ZRow w ad c zs) (hn : zs.length = n) :
    Calls Try.prog 25 #[.int .i64 sz, .int .i64 od, .int .i64 un, .int .i64 ct, .slice ad n c] w (MadeH w) := by
  have HR := Lib.hid hr
  have HN := Lib.hid hn
  have hc1 := hr.1
  rw [hn] at hc1
  have hcm : c ≤ 9223372036854775807 := by have := hr.2.1; unfold maxLen at this; omega
  obtain ⟨z, hz⟩ : ∃ z, bits .and .i64 sz 511 = z := ⟨_, rfl⟩
  have hzr : 0 ≤ z ∧ z ≤ 511 := by rw [← hz]; exact and_range sz 511 (by decide)
  obtain ⟨q, hq⟩ : ∃ z, bits .and .i64 sz 255 = z := ⟨_, rfl⟩
  have hqr : 0 ≤ q ∧ q ≤ 255 := by rw [← hq]; exact and_range sz 255 (by decide)
  obtain ⟨o, ho⟩ : ∃ z, bits .and .i64 od 3 = z := ⟨_, rfl⟩
  have hor : 0 ≤ o ∧ o ≤ 3 := by rw [← ho]; exact and_range od 3 (by decide)
  obtain ⟨k, hk⟩ : ∃ z, bits .and .i64 ct 3 = z := ⟨_, rfl⟩
  have hkr : 0 ≤ k ∧ k ≤ 3 := by rw [← hk]; exact and_range ct 3 (by decide)
  obtain ⟨u, hu⟩ : ∃ z, bits .and .i64 un 7 = z := ⟨_, rfl⟩
  have hur : 0 ≤ u ∧ u ≤ 7 := by rw [← hu]; exact and_range un 7 (by decide)
  clear hr hn
  obtain ⟨HX2, HX3, HB2⟩ : Hid (RecAt ((w.alloc (.cells zeroHd 26)).alloc (.cells #[.int .i64 z, .int .i64 (3 + o), .int .i64 2, .int .i64 (1 + k), .int .i64 1, .int .i64 q, .slice none 0 0] 26)) w.heap.size zeroHd 26) ∧ Hid (RecAt ((w.alloc (.cells zeroHd 26)).alloc (.cells #[.int .i64 z, .int .i64 (3 + o), .int .i64 2, .int .i64 (1 + k), .int .i64 1, .int .i64 q, .slice none 0 0] 26)) (w.heap.size + 1) #[.int .i64 z, .int .i64 (3 + o), .int .i64 2, .int .i64 (1 + k), .int .i64 1, .int .i64 q, .slice none 0 0] 26) ∧ Hid (Below w.heap.size w ((w.alloc (.cells zeroHd 26)).alloc (.cells #[.int .i64 z, .int .i64 (3 + o), .int .i64 2, .int .i64 (1 + k), .int .i64 1, .int .i64 q, .slice none 0 0] 26))) := two_recs w _ _ _ _
  go_enter Try.func25, Try.ntmps25
  go_upto_region 2 with fail
  generalize ((w.alloc (.cells zeroHd 26)).alloc (.cells #[.int .i64 z, .int .i64 (3 + o), .int .i64 2, .int .i64 (1 + k), .int .i64 1, .int .i64 q, .slice none 0 0] 26)) = w2 at *
  obtain ⟨P3, hP3⟩ : ∃ P, w.heap.size + 1 = P := ⟨_, rfl⟩
  have HP3 := Lib.hid hP3
  rw [hP3] at HX3 ⊢
  clear hP3
  obtain ⟨P2, hP2⟩ : ∃ P, w.heap.size = P := ⟨_, rfl⟩
  have HP2 := Lib.hid hP2
  rw [hP2]
  rw [hP2] at HX2 HP3
  clear hP2
  obtain ⟨y0, y1, y2, y3, y4, y5, y6⟩ := HX3.out.c7
  have f2 := HX3.out.frozen 2
  obtain ⟨r, hr⟩ : ∃ r, u % (3 + o - 1) = r := ⟨_, rfl⟩
  have hrr : 0 ≤ r ∧ r ≤ 1 + o := by rw [← hr]; have h1 := Int.emod_nonneg u (show 3 + o - 1 ≠ 0 by omega); have h2 := Int.emod_lt_of_pos u (show 0 < 3 + o - 1 by omega); omega
  have HSH : Hid (ShapeOk (3 + o) (2 + r) (1 + k)) := Lib.hid (by unfold ShapeOk; omega)
  have HZR := Lib.hid hzr
  have HQR := Lib.hid hqr
  clear hz hq ho hk
  go_upto_region 3 with fail
  have HX32 := Lib.hid (HX3.out.set 2 (.int .i64 (2 + r)))
  have HX22 := Lib.hid (HX2.out.other (y := P3) (by have := HP3.out; omega) 2 (.int .i64 (2 + r)))
  have HB22 := Lib.hid (HB2.out.setCell (p := ⟨P3, 2, none⟩) (by have := HP3.out; have := HP2.out; simp only; omega) (.int .i64 (2 + r)))
  simp only [List.setIfInBounds_toArray, List.set_cons_zero, List.set_cons_succ] at HX32
  generalize (w2.setCell ⟨P3, 2, none⟩ (.int .i64 (2 + r))) = w3 at *
  clear HX3 HX2 HB2 y0 y1 y2 y3 y4 y5 y6 f2 hr hu hur hrr
  generalize 3 + o = O at *
  generalize 2 + r = U at *
  generalize 1 + k = KC at *
  clear hor hkr hzr hqr
  go_wp2_with fail
  go_loopw [12, 13, 14] (fun sv hv i wr => ∃ (j s : Nat) (b : Bool) (nx : Int) (ms : List Mk) (a : Option Addr) (cp : Nat), i = .int .i64 j ∧ sv = .int .i64 s ∧ hv = .bool b ∧ j ≤ 16 ∧ j ≤ n ∧ Hid (MadeM j nx s b ms) ∧ Hid (MOwn w wr (.slice a j cp) ms) ∧ Hid ((Value.slice a j cp).ownBlock ≠ some P2 ∧ (Value.slice a j cp).ownBlock ≠ some P3) ∧ Hid (RecAt wr P3 #[.int .i64 z, .int .i64 O, .int .i64 U, .int .i64 KC, .int .i64 nx, .int .i64 q, .slice a j cp] 26) ∧ Hid (RecAt wr P2 zeroHd 26)) (fun _ _ i _ => n - (intOf i).toNat)
  case atStart => exact ⟨0, 0, false, 1, [], none, 0, rfl, rfl, rfl, by omega, by omega, Lib.hid MadeM.start, Lib.hid (GOwn.nil' HB22.out), Lib.hid ⟨by simp [Value.ownBlock], by simp [Value.ownBlock]⟩, HX32, HX22⟩
  case round =>
    clear HX32 HX22
    obtain ⟨j, s, b, nx, ms, a, cp, rfl, rfl, rfl, hj16, hj, HM, HO, HNB, HX3, HX2⟩ := hrel
    obtain ⟨y0, y1, y2, y3, y4, y5, y6⟩ := HX3.out.c7
    by_cases hjn : (j : Int) < n
    · by_cases hj6 : (j : Int) < 16
      · obtain ⟨x, hx⟩ : ∃ x, zs[j]? = some x := ⟨zs[j]'(by have := HN.out; omega), List.getElem?_eq_getElem _⟩
        obtain ⟨b0, o0, rfl, p0⟩ := (HR.out.later HO.out.below).at hx
        have HNX : Hid (1 ≤ nx ∧ nx ≤ 1 + 2 * j) := Lib.hid ⟨HM.out.nx1, HM.out.nx2⟩
        have hnx := HNX.out
        have HS8 : Hid (s ≤ 8) := Lib.hid HM.out.sn8
        obtain ⟨xz, hxz⟩ : ∃ v, bits .and .i64 x 511 = v := ⟨_, rfl⟩
        have hxzr : 0 ≤ xz ∧ xz ≤ 511 := by rw [← hxz]; exact and_range x 511 (by decide)
        obtain ⟨xg, hxg⟩ : ∃ v, (bits .and .i64 x 1024 != 0) = v := ⟨_, rfl⟩
        obtain ⟨xh, hxh⟩ : ∃ v, (bits .and .i64 x 14336 == 0) = v := ⟨_, rfl⟩
        have hcv := nm_is j (by omega) wr
        have hcv2 := nm_is2 j (by omega) wr
        have hcv3 := nm_is3 j (by omega) wr
        obtain ⟨hw1, hw2⟩ := wrap_97 j (by omega)
        have hst : ((⟨#[115]⟩ : ByteArray) ++ ⟨#[UInt8.ofNat (97 + j)]⟩) = nmS j := rfl
        obtain ⟨ch, hch⟩ : ∃ ch, UInt8.ofNat (97 + j) = ch := ⟨_, rfl⟩
        rw [hch] at hst hcv
        simp only [hch] at hcv2 hcv3
        clear hch
        go_upto_region 7 with fail
        go_cut [15] (fun p wx => ∃ P4 : Nat, p = .pointer (some ⟨P4, 0, none⟩) ∧ Hid (RecAt wx P4 #[.int .i64 nx, .string (nmS j), .int .i64 xz, .bool xg] 39) ∧ Hid (Below wr.heap.size wr wx) ∧ Hid (wr.heap.size ≤ P4))
        case first =>
          have hq1 : ∀ ob, (wr.alloc ob).drew.cell? ⟨P3, 4, none⟩ = some (.int .i64 nx) ∧ (wr.alloc ob).drew.cell? ⟨b0, o0 + j, none⟩ = some (.int .i64 x) := fun ob => ⟨(Below.cell ((Below.refl _ _).alloc (Nat.le_refl _) ob).drew (World.block_lt_of_cell? _ _ y4)).trans y4, (Below.cell ((Below.refl _ _).alloc (Nat.le_refl _) ob).drew (World.block_lt_of_cell? _ _ p0)).trans p0⟩
          have hq2 : ∀ ob oc, ((wr.alloc ob).alloc oc).drew.cell? ⟨P3, 4, none⟩ = some (.int .i64 nx) ∧ ((wr.alloc ob).alloc oc).drew.cell? ⟨b0, o0 + j, none⟩ = some (.int .i64 x) := fun ob oc => ⟨(Below.cell (((Below.refl _ _).alloc (Nat.le_refl _) ob).alloc (by simp) oc).drew (World.block_lt_of_cell? _ _ y4)).trans y4, (Below.cell (((Below.refl _ _).alloc (Nat.le_refl _) ob).alloc (by simp) oc).drew (World.block_lt_of_cell? _ _ p0)).trans p0⟩
          obtain ⟨hq3, hq4⟩ := forall_and.1 hq1
          have hq5 := fun x y => (hq2 x y).1
          have hq6 := fun x y => (hq2 x y).2
          clear hq1 hq2
          go_region
          all_goals
            go_wp2_with fail
            go_meet
            first
              | exact ⟨_, rfl, Lib.hid ((two_recs wr _ _ _ _).2.1.later (Below.refl _ _).drew), Lib.hid (two_recs wr _ _ _ _).2.2.drew, Lib.hid (by omega)⟩
              | exact ⟨_, rfl, Lib.hid ((two_recs wr _ _ _ _).1.later (Below.refl _ _).drew), Lib.hid (two_recs wr _ _ _ _).2.2.drew, Lib.hid (by omega)⟩
        case rest =>
          obtain ⟨P4, rfl, HY, HB4, HP4⟩ := hcut
          obtain ⟨wo, hwo⟩ : ∃ W, W = wc := ⟨_, rfl⟩
          subst hwo
          clear hcv hcv2 hcv3 hst y0 y1 y2 y3 y4 y5 y6 hw1 hw2 hxz
          have p1 : wo.cell? ⟨b0, o0 + j, none⟩ = some (.int .i64 x) := (Below.cell HB4.out (World.block_lt_of_cell? _ _ p0)).trans p0
          have HP0 := Lib.hid p0
          clear p0
          obtain ⟨v0, v1, v2, v3⟩ := HY.out.c4
          obtain ⟨g0, g1, g2, g3⟩ := HY.out.f4
          go_upto_region 8 with fail
          go_cut [77] (fun v wx => v = .bool (xh && !b) ∧ wx = wo)
          case first =>
            cases xh <;> cases b
            all_goals
              go_wp2_with fail
              go_meet
              exact ⟨rfl, rfl⟩
          case rest =>
          obtain ⟨rfl, rfl⟩ := hcut
          obtain ⟨T, hT⟩ : ∃ T, (xh && !b) = T := ⟨_, rfl⟩
          have HT : Hid (T = true → b = false) := Lib.hid (fun h => by rw [h] at hT; simp at hT; exact hT.2)
          rw [hT]
          clear hT hxh
          go_upto_if 77 with fail
          go_cut [12, 13] (fun sv hv wx => ∃ (s' : Nat) (b' g' : Bool) (nm' : ByteArray), sv = .int .i64 s' ∧ hv = .bool b' ∧ Hid (RecAt wx P4 #[.int .i64 nx, .string nm', .int .i64 xz, .bool g'] 39) ∧ Hid (Below wr.heap.size wr wx) ∧ Hid ((nm' = nmS j ∧ b' = b ∧ (g' = true ∧ s' = s ∨ g' = false ∧ s' = s + 1 ∧ s < 8)) ∨ (nm' = tilN ∧ g' = false ∧ b = false ∧ b' = true ∧ s' = s)))
          case first =>
            cases T
            case true =>
              have hb0 := HT.out rfl
              subst hb0
              go_wp2_with fail
              go_meet
              exact ⟨s, true, false, tilN, rfl, rfl, Lib.hid ((HY.out.set 1 (.string tilN)).set 3 (.bool false)), Lib.hid ((HB4.out.setCell (p := ⟨P4, 1, none⟩) HP4.out _).setCell (p := ⟨P4, 3, none⟩) HP4.out _), Lib.hid (.inr ⟨rfl, rfl, by simp, by simp, rfl⟩)⟩
            case false =>
              cases xg <;> rcases (show ((s : Nat) : Int) = 8 ∨ (((s : Nat) : Int) == 8) = false ∧ s < 8 by have := HS8.out; simp; omega) with h8 | ⟨h8, h8'⟩
              all_goals
                first | have h88 : (((s : Nat) : Int) == 8) = true := by simpa using h8 | skip
                go_wp2_with fail
                go_meet
                first
                  | exact ⟨s, b, true, nmS j, rfl, rfl, Lib.hid (HY.out.set 3 (.bool true)), Lib.hid (HB4.out.setCell (p := ⟨P4, 3, none⟩) HP4.out _), Lib.hid (.inl ⟨rfl, rfl, .inl ⟨rfl, rfl⟩⟩)⟩
                  | exact ⟨s, _, _, _, rfl, rfl, HY, HB4, Lib.hid (.inl ⟨rfl, rfl, .inl ⟨rfl, rfl⟩⟩)⟩
                  | exact ⟨s + 1, _, _, _, by go_num, rfl, HY, HB4, Lib.hid (.inl ⟨rfl, rfl, .inr ⟨rfl, rfl, by omega⟩⟩)⟩
          case rest =>
            clear HY HB4 v0 v1 v2 v3 g0 g1 g2 g3 p1 HT
            obtain ⟨s', b', g', nm', rfl, rfl, HY, HB4, HK⟩ := hcut
            have HO5 := Lib.hid (HO.out.later HB4.out)
            have HX35 := Lib.hid (HX3.out.later HB4.out)
            have HX25 := Lib.hid (HX2.out.later HB4.out)
            have HTB : Hid (Mk.B ⟨nx, nm', xz, g'⟩) := Lib.hid ⟨by unfold W64; simp only; omega, by unfold W64; simp only; omega, by rcases HK.out with ⟨h, _⟩ | ⟨h, _⟩ <;> subst h <;> simp [nmS, tilN, ByteArray.size]⟩
            have HML : Hid (ms.length = j) := Lib.hid HM.out.len
            have HUL : Hid ((ms ++ [(⟨nx, nm', xz, g'⟩ : Mk)]).length = j + 1) := Lib.hid (by rw [List.length_append, HML.out]; rfl)
            have HSZ : Hid (P3 < wc.heap.size ∧ P2 < wc.heap.size) := Lib.hid ⟨HX35.out.lt, HX25.out.lt⟩
            have HX0 := Lib.hid ((HR.out.later HO5.out.below).at hx)
            clear HO HX3 HX2
            obtain ⟨v0, v1, v2, v3⟩ := HY.out.c4
            obtain ⟨z0, z1, z2, z3, z4, z5, z6⟩ := HX35.out.c7
            have g6 := HX35.out.frozen 6
            go_upto_region 15 with (at_builtin; refine wp_gone mkOk rfl _ _ rfl rfl _ _ rfl w HO5.out ⟨nx, nm', xz, g'⟩ HTB.out rfl rfl (by rw [HML.out]; omega) ?_; intro v12 w12 o12 g12 h12; obtain ⟨a12, c12, rfl, _⟩ := o12.row_n mkOk HUL.out; have HO12 := Lib.hid o12; have HG12 := Lib.hid g12; have HH12 := Lib.hid h12; clear o12 g12 h12 v0 v1 v2 v3 z0 z1 z2 z3 z4 z5 z6 g6; have HNB12 : Hid ((Value.slice a12 (j + 1) c12).ownBlock ≠ some P2 ∧ (Value.slice a12 (j + 1) c12).ownBlock ≠ some P3) := Lib.hid (by rcases HH12.out with h | h <;> rw [h]; exact HNB.out; exact ⟨by have := HSZ.out; simp; omega, by have := HSZ.out; simp; omega⟩); have HX312 := Lib.hid ((HX35.out.later ((Below.refl _ _).alloc (Nat.le_refl _) _)).grown HG12.out (fun e => HNB.out.2 e.symm)); have HX212 := Lib.hid ((HX25.out.later ((Below.refl _ _).alloc (Nat.le_refl _) _)).grown HG12.out (fun e => HNB.out.1 e.symm)); obtain ⟨z0, z1, z2, z3, z4, z5, z6⟩ := HX312.out.c7; have g6 := HX312.out.frozen 6)
            have HP3W : Hid (w.heap.size ≤ P3) := Lib.hid (by have := HP2.out; have := HP3.out; omega)
            have HO13 := Lib.hid (HO12.out.besides HP3W.out HNB12.out.2 6 (.slice a12 (j + 1) c12))
            have HX313 := Lib.hid (HX312.out.set 6 (.slice a12 (j + 1) c12))
            have HX213 := Lib.hid (HX212.out.other (y := P3) (by have := HP3.out; omega) 6 (.slice a12 (j + 1) c12))
            simp only [List.setIfInBounds_toArray, List.set_cons_zero, List.set_cons_succ] at HX313
            generalize (w12.setCell ⟨P3, 6, none⟩ (.slice a12 (j + 1) c12)) = w13 at *
            clear HX0 z0 z1 z2 z3 z4 z5 z6 g6 HX312 HX212 HO12 HG12 HH12 HX35 HX25 HO5 HY HB4
            obtain ⟨_, _, e0, q0⟩ := (HR.out.later HO13.out.below).at hx
            cases e0
            obtain ⟨z0, z1, z2, z3, z4, z5, z6⟩ := HX313.out.c7
            have g4 := HX313.out.frozen 4
            obtain ⟨xb, hxb⟩ : ∃ v, bits .and .i64 (x / 16384) 1 = v := ⟨_, rfl⟩
            have hxbr : 0 ≤ xb ∧ xb ≤ 1 := by rw [← hxb]; exact and_range _ 1 (by decide)
            have hw1 : IntKind.i64.wrap (nx + 1) = nx + 1 := by rw [IntKind.wrap_i64]; omega
            have hw2 : IntKind.i64.wrap (nx + 1 + xb) = nx + 1 + xb := by rw [IntKind.wrap_i64]; omega
            go_region
            have HO15 := Lib.hid ((HO13.out.besides HP3W.out HNB12.out.2 4 (.int .i64 (nx + 1 + xb))).later (Below.refl _ _).drew)
            have HX315 := Lib.hid ((HX313.out.set 4 (.int .i64 (nx + 1 + xb))).later (Below.refl _ _).drew)
            have HX215 := Lib.hid ((HX213.out.other (y := P3) (by have := HP3.out; omega) 4 (.int .i64 (nx + 1 + xb))).later (Below.refl _ _).drew)
            simp only [List.setIfInBounds_toArray, List.set_cons_zero, List.set_cons_succ] at HX315
            have HM15 := Lib.hid (HM.out.snoc (t := ⟨nx, nm', xz, g'⟩) (by omega) rfl hxbr (by simp only; omega) HK.out)
            generalize (w13.setCell ⟨P3, 4, none⟩ (.int .i64 (nx + 1 + xb))).drew = w15 at *
            clear z0 z1 z2 z3 z4 z5 z6 g4 q0 HO13 HX313 HX213 hw1 hw2 hxb
            go_wp2_with fail
            go_roundw
            case rel =>
              exact ⟨j + 1, s', b', nx + 1 + xb, _, a12, c12, by go_num, rfl, rfl, by omega, by omega, HM15, HO15, HNB12, HX315, HX215⟩
            case measure => simp [intOf]; omega
      · have : j = 16 := by omega
        subst this
        have HF := Lib.hid (HM.out.hdOk (by omega) HZR.out HSH.out HQR.out)
        have HL := Lib.hid HM.out.len
        have HA := Lib.hid HM.out.apart
        go_wp2_with (refine wpList_rec rfl rfl P2 zeroHd #[.int .i64 z, .int .i64 O, .int .i64 U, .int .i64 KC, .int .i64 nx, .int .i64 q, .slice a 16 cp] rfl rfl HX2.out rfl (by kernel_rfl) (by kernel_rfl) ?_; intro w8 r1 r2 r3 r4)
        refine bodyPost_ret (results_c rfl rfl r1 Try.underlying26 rfl (by kernel_rfl)) rfl ?_
        exact ⟨⟨z, O, U, KC, nx, q, ms⟩, a, cp, 16, rfl, HF.out, HA.out, HL.out, by omega, HO.out.keptBy r4 (.inr HNB.out.1) (fun k e => by cases e; exact Nat.le_of_eq HP2.out)⟩
    · have : j = n := by omega
      subst this
      have HF := Lib.hid (HM.out.hdOk (by omega) HZR.out HSH.out HQR.out)
      have HL := Lib.hid HM.out.len
      have HA := Lib.hid HM.out.apart
      go_wp2_with (refine wpList_rec rfl rfl P2 zeroHd #[.int .i64 z, .int .i64 O, .int .i64 U, .int .i64 KC, .int .i64 nx, .int .i64 q, .slice a j cp] rfl rfl HX2.out rfl (by kernel_rfl) (by kernel_rfl) ?_; intro w8 r1 r2 r3 r4)
      refine bodyPost_ret (results_c rfl rfl r1 Try.underlying26 rfl (by kernel_rfl)) rfl ?_
      exact ⟨⟨z, O, U, KC, nx, q, ms⟩, a, cp, j, rfl, HF.out, HA.out, HL.out, by omega, HO.out.keptBy r4 (.inr HNB.out.1) (fun k e => by cases e; exact Nat.le_of_eq HP2.out)⟩
end Go.Proofs.Ytfjplhjlmilcfaa
