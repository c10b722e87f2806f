/- Messages: the law's Make, by kinds. Printed by gen_msmake.py. | Messages: the law's Make, kind 4: a chain and marks. Printed by gen_msmake2.py. -/
import Derived.Test.YtiahifpbofkimaaGP
import Derived.Test.YtiahifpbofkimaaMsR
import Derived.Test.YtiahifpbofkimaaGJ
import Derived.Lib.MinMax
import Derived.Deep.RegionWith
import Derived.Deep.DeepCutAuto
import Derived.BigRegion
namespace Go.Proofs.Ytiahifpbofkimaa
open Go.RowKit Go.Proofs
set_option linter.unusedVariables false
set_option linter.unusedSimpArgs false
set_option linter.unnecessarySimpa false

/-- What Make answers: a message that may be. -/
def MadeP (w : World) (e : Ending) (w' : World) : Prop := ∃ m p, e = .returned (msV m p) ∧ MsOk m ∧ MsRows w' m p ∧ Below w.heap.size w w'
theorem ok_1 {a b c : Int} (ha : 1 ≤ a ∧ a ≤ 1048576) (hb : 0 ≤ b ∧ b ≤ 65535) (hc : 0 ≤ c ∧ c ≤ 65535) : MsOk ⟨1, a, b, c, 0, 0, [], [], [], []⟩ :=
  ⟨by unfold NumsM; simp only; omega, by unfold NamedM; simp, fun h => by simp at h, fun h => by simp at h, fun h => by simp at h, fun h => by simp at h⟩
theorem ok_0 {k a : Int} (hk : k = 3 ∨ k = 7 ∨ k = 8) (ha : 1 ≤ a ∧ a ≤ 1048576) : MsOk ⟨k, a, 0, 0, 0, 0, [], [], [], []⟩ :=
  ⟨by unfold NumsM; simp only; omega, by unfold NamedM; simp, fun h => by simp only at h; omega, fun h => by simp only at h; omega, fun h => by simp only at h; omega, fun h => by simp only at h; omega⟩
theorem ok_2 {a b c : Int} {C : List Tg} {E : List En} (ha : 1 ≤ a ∧ a ≤ 1048576) (hb : 0 ≤ b ∧ b ≤ 65535) (hc : 0 ≤ c ∧ c ≤ 65535) (hC : ChOk C) (hE : EntsOk b E) : MsOk ⟨2, a, b, c, 0, 0, C, E, [], []⟩ :=
  ⟨by unfold NumsM; simp only; omega, by unfold NamedM; simp, fun h => ⟨hC, hE⟩, fun h => by simp at h, fun h => by simp at h, fun h => by simp at h⟩
theorem ok_4 {a b : Int} {C : List Tg} {T : List Mk} (ha : 1 ≤ a ∧ a ≤ 1048576) (hb : 0 ≤ b ∧ b ≤ 65535) (hC : ChOk C) (hT : MarksSent T) : MsOk ⟨4, a, b, 0, 0, 0, C, [], T, []⟩ :=
  ⟨by unfold NumsM; simp only; omega, by unfold NamedM; simp, fun h => by simp at h, fun h => ⟨hC, hT⟩, fun h => by simp at h, fun h => by simp at h⟩
theorem ok_5 {a b c : Int} (ha : 1 ≤ a ∧ a ≤ 1048576) (hb : 0 ≤ b ∧ b ≤ 15) (hc : 0 ≤ c ∧ c ≤ 511) : MsOk ⟨5, a, 0, 0, b, c, [], [], [], []⟩ :=
  ⟨by unfold NumsM; simp only; omega, by unfold NamedM; simp, fun h => by simp at h, fun h => by simp at h, fun h => by simp at h, fun h => by simp at h⟩
theorem ok_6 {a b c : Int} {D : List UInt8} (ha : 1 ≤ a ∧ a ≤ 1048576) (hb : 0 ≤ b ∧ b ≤ 15) (hc : 0 ≤ c ∧ c ≤ 511) (hD : D.length ≤ 64) : MsOk ⟨6, a, 0, 0, b, c, [], [], [], D⟩ :=
  ⟨by unfold NumsM; simp only; omega, by unfold NamedM; simp, fun h => by simp at h, fun h => by simp at h, fun h => hD, fun h => by simp at h⟩
theorem ok_9 {a b : Int} (ha : 1 ≤ a ∧ a ≤ 1048576) (hb : 1 ≤ b ∧ b ≤ 13) : MsOk ⟨9, a, 0, 0, 0, b, [], [], [], []⟩ :=
  ⟨by unfold NumsM; simp only; omega, by unfold NamedM; simp, fun h => by simp at h, fun h => by simp at h, fun h => by simp at h, fun h => hb⟩
theorem and_lo (z : Int) (m : Nat) (hm : m < 9223372036854775808) : ∃ v, bits .and .i64 z (m : Int) = v ∧ 0 ≤ v ∧ v ≤ m := ⟨_, rfl, and_range z m hm⟩
set_option maxRecDepth 20000 in
set_option maxHeartbeats 6400000 in
theorem makeMs_1 (kd : Int) (ad : Option Addr) (n c : Nat) (zs : List Int) (ap : Option Addr) (np cp : Nat) (pl : List UInt8) (w : World) (hr : ZRow w ad c zs) (hn : zs.length = n) (hn2 : n ≤ 1000) (hp : Row w ap cp pl) (hpl : pl.length = np) (hk : 1 + bits .and .i64 kd 255 % 9 = 1) :
    Calls Try.prog 18 #[.int .i64 kd, .slice ad n c, .slice ap np cp] w (MadeP w) := by
  have HSV := Lib.hid (fun W (h : Below w.heap.size w W) => seven_any ad n c zs W (hr.later h) hn)
  have HR := Lib.hid hr
  have HN := Lib.hid hn
  have HPL := Lib.hid hp
  have HPN := Lib.hid hpl
  have hcp := hp.1
  rw [hpl] at hcp
  have hcpm : cp ≤ 9223372036854775807 := by have := hp.2.1; unfold maxLen at this; omega
  have HB1 := Lib.hid ((Below.refl w.heap.size w).alloc (Nat.le_refl _) (.cells zeroMs 27))
  have HX1 := Lib.hid (RecAt.new w zeroMs 27)
  obtain ⟨q, hq, hq0, hq1⟩ := and_lo kd 255 (by decide)
  rw [show ((255 : Nat) : Int) = 255 from rfl] at hq
  rw [hq] at hk
  clear hr hn hp hpl
  go_enter Try.func18, Try.ntmps18
  go_upto_region 1 with fail
  simp only [zeroMs] at HB1 HX1
  generalize (w.alloc (.cells #[.int .i64 0, .int .i64 0, .int .i64 0, .int .i64 0, .int .i64 0, .int .i64 0, .slice none 0 0, .slice none 0 0, .slice none 0 0, .slice none 0 0] 27)) = w1 at *
  obtain ⟨P6, hP6⟩ : ∃ P, w.heap.size = P := ⟨_, rfl⟩
  have HP6 := Lib.hid hP6
  rw [hP6]
  rw [hP6] at HX1
  clear hP6
  go_upto_region 2 with (go_at_call 52; refine (HSV.out w1 HB1.out).mono ?_; rintro e w2 ⟨z0, z1, z2, z3, z4, z5, z6, rfl, b2⟩; have HB2 := Lib.hid b2; clear b2)
  have HX7 := Lib.hid (RecAt.new w2 (sevC z0 z1 z2 z3 z4 z5 z6) 76)
  have hba : Below w2.heap.size w2 (w2.alloc (.cells (sevC z0 z1 z2 z3 z4 z5 z6) 76)) := (Below.refl _ _).alloc (Nat.le_refl _) _
  have HX3 := Lib.hid ((HX1.out.later HB2.out).later hba)
  have HB3 := Lib.hid ((HB1.out.trans (HB2.out.mono HB1.out.size)).trans (hba.mono (HB1.out.trans (HB2.out.mono HB1.out.size)).size))
  clear hba HX1 HB1 HB2 HSV
  generalize (w2.alloc (.cells (sevC z0 z1 z2 z3 z4 z5 z6) 76)) = w3 at *
  obtain ⟨P7, hP7⟩ : ∃ P, w2.heap.size = P := ⟨_, rfl⟩
  rw [hP7] at HX7
  rw [hP7]
  clear hP7
  have t0 := HX7.out.cell (i := 0) rfl
  obtain ⟨r0, hr0, hr00, hr01⟩ := and_lo z0 1048575 (by decide)
  rw [show ((1048575 : Nat) : Int) = 1048575 from rfl] at hr0
  go_upto_region 3 with fail
  have HN0 : Hid (1 ≤ 1 + r0 ∧ 1 + r0 ≤ 1048576) := Lib.hid (by omega)
  obtain ⟨N0, hN0⟩ : ∃ N, 1 + r0 = N := ⟨_, rfl⟩
  rw [hN0]
  rw [hN0] at HN0
  have HX8 := Lib.hid (RecAt.new w3 #[.int .i64 1, .int .i64 N0, .int .i64 0, .int .i64 0, .int .i64 0, .int .i64 0, .slice none 0 0, .slice none 0 0, .slice none 0 0, .slice none 0 0] 27)
  have hba : Below w3.heap.size w3 (w3.alloc (.cells #[.int .i64 1, .int .i64 N0, .int .i64 0, .int .i64 0, .int .i64 0, .int .i64 0, .slice none 0 0, .slice none 0 0, .slice none 0 0, .slice none 0 0] 27)) := (Below.refl _ _).alloc (Nat.le_refl _) _
  have HX64 := Lib.hid (HX3.out.later hba)
  have HX74 := Lib.hid (HX7.out.later hba)
  have HB4 := Lib.hid (HB3.out.trans (hba.mono HB3.out.size))
  have HP83 : Hid (P6 < w3.heap.size ∧ P7 < w3.heap.size) := Lib.hid ⟨HX3.out.lt, HX7.out.lt⟩
  clear hba HX3 HX7 HB3 t0 hr0 hr00 hr01 hN0 hq hq0 hq1 hk
  generalize (w3.alloc (.cells #[.int .i64 1, .int .i64 N0, .int .i64 0, .int .i64 0, .int .i64 0, .int .i64 0, .slice none 0 0, .slice none 0 0, .slice none 0 0, .slice none 0 0] 27)) = w4 at *
  obtain ⟨P8, hP8⟩ : ∃ P, w3.heap.size = P := ⟨_, rfl⟩
  rw [hP8] at HX8 HP83
  rw [hP8]
  clear hP8
  obtain ⟨y0, y1, y2, y3, y4, y5, y6, y7, y8, y9⟩ := HX8.out.c10
  have t1 := HX74.out.cell (i := 1) rfl
  obtain ⟨v1, hv1, hv10, hv11⟩ := and_lo z1 65535 (by decide)
  rw [show ((65535 : Nat) : Int) = 65535 from rfl] at hv1 hv11
  have t2 := HX74.out.cell (i := 2) rfl
  obtain ⟨v2, hv2, hv20, hv21⟩ := and_lo z2 65535 (by decide)
  rw [show ((65535 : Nat) : Int) = 65535 from rfl] at hv2 hv21
  have f2 := HX8.out.frozen 2
  have f3 := HX8.out.frozen 3
  have HMO : Hid (MsOk ⟨1, N0, v1, v2, 0, 0, [], [], [], []⟩) := Lib.hid (ok_1 HN0.out ⟨hv10, hv11⟩ ⟨hv20, hv21⟩)
  have t3 : (w4.setCell ⟨P8, 2, none⟩ (.int .i64 v1)).drew.cell? ⟨P7, 2, none⟩ = some (.int .i64 z2) := ((HX74.out.other (y := P8) (by have := HP83.out; omega) 2 (.int .i64 v1)).later (Below.refl _ _).drew).cell rfl
  clear hv10 hv11 hv20 hv21
  go_upto_region 5 with fail
  go_region
  have HX85 := Lib.hid (((HX8.out.set 2 (.int .i64 v1)).set 3 (.int .i64 v2)).later (Below.refl _ _).drew)
  simp only [List.setIfInBounds_toArray, List.set_cons_zero, List.set_cons_succ] at HX85
  have HX65 := Lib.hid (((HX64.out.other (y := P8) (by have := HP83.out; omega) 2 (.int .i64 v1)).other (y := P8) (by have := HP83.out; omega) 3 (.int .i64 v2)).later (Below.refl _ _).drew)
  have HB5 := Lib.hid (((HB4.out.setCell (p := ⟨P8, 2, none⟩) (by have := HP83.out; have := HP6.out; simp only; omega) (.int .i64 v1)).setCell (p := ⟨P8, 3, none⟩) (by have := HP83.out; have := HP6.out; simp only; omega) (.int .i64 v2)).drew)
  have HX75 := Lib.hid (((HX74.out.other (y := P8) (by have := HP83.out; omega) 2 (.int .i64 v1)).other (y := P8) (by have := HP83.out; omega) 3 (.int .i64 v2)).later (Below.refl _ _).drew)
  generalize (((w4.setCell ⟨P8, 2, none⟩ (.int .i64 v1)).setCell ⟨P8, 3, none⟩ (.int .i64 v2)).drew) = w5 at *
  clear HX8 HX64 HX74 HB4 y0 y1 y2 y3 y4 y5 y6 y7 y8 y9
  obtain ⟨y0, y1, y2, y3, y4, y5, y6, y7, y8, y9⟩ := HX85.out.c10
  go_wp2_with (refine wpList_rec rfl rfl P6 zeroMs #[.int .i64 1, .int .i64 N0, .int .i64 v1, .int .i64 v2, .int .i64 0, .int .i64 0, .slice none 0 0, .slice none 0 0, .slice none 0 0, .slice none 0 0] rfl rfl HX65.out rfl (by kernel_rfl) (by kernel_rfl) ?_; intro w8 r1 r2 r3 r4)
  refine bodyPost_ret (results_c rfl rfl r1 Try.underlying27 rfl (by kernel_rfl)) rfl ?_
  exact ⟨⟨1, N0, v1, v2, 0, 0, [], [], [], []⟩, ⟨none, 0, 0, none, 0, 0, none, 0, 0, none, 0, 0⟩, rfl, HMO.out, MsRows.nil _ _ rfl rfl rfl rfl, HB5.out.grown r4 HB5.out.size (fun k e => by cases e; exact Nat.le_of_eq HP6.out)⟩
set_option maxRecDepth 20000 in
set_option maxHeartbeats 6400000 in
theorem makeMs_0 (kd K : Int) (ad : Option Addr) (n c : Nat) (zs : List Int) (ap : Option Addr) (np cp : Nat) (pl : List UInt8) (w : World) (hr : ZRow w ad c zs) (hn : zs.length = n) (hn2 : n ≤ 1000) (hp : Row w ap cp pl) (hpl : pl.length = np) (hK : K = 3 ∨ K = 7 ∨ K = 8) (hk : 1 + bits .and .i64 kd 255 % 9 = K) :
    Calls Try.prog 18 #[.int .i64 kd, .slice ad n c, .slice ap np cp] w (MadeP w) := by
  have HSV := Lib.hid (fun W (h : Below w.heap.size w W) => seven_any ad n c zs W (hr.later h) hn)
  have HR := Lib.hid hr
  have HN := Lib.hid hn
  have HPL := Lib.hid hp
  have HPN := Lib.hid hpl
  have hcp := hp.1
  rw [hpl] at hcp
  have hcpm : cp ≤ 9223372036854775807 := by have := hp.2.1; unfold maxLen at this; omega
  have HB1 := Lib.hid ((Below.refl w.heap.size w).alloc (Nat.le_refl _) (.cells zeroMs 27))
  have HX1 := Lib.hid (RecAt.new w zeroMs 27)
  obtain ⟨q, hq, hq0, hq1⟩ := and_lo kd 255 (by decide)
  rw [show ((255 : Nat) : Int) = 255 from rfl] at hq
  rw [hq] at hk
  clear hr hn hp hpl
  go_enter Try.func18, Try.ntmps18
  go_upto_region 1 with fail
  simp only [zeroMs] at HB1 HX1
  generalize (w.alloc (.cells #[.int .i64 0, .int .i64 0, .int .i64 0, .int .i64 0, .int .i64 0, .int .i64 0, .slice none 0 0, .slice none 0 0, .slice none 0 0, .slice none 0 0] 27)) = w1 at *
  obtain ⟨P6, hP6⟩ : ∃ P, w.heap.size = P := ⟨_, rfl⟩
  have HP6 := Lib.hid hP6
  rw [hP6]
  rw [hP6] at HX1
  clear hP6
  go_upto_region 2 with (go_at_call 52; refine (HSV.out w1 HB1.out).mono ?_; rintro e w2 ⟨z0, z1, z2, z3, z4, z5, z6, rfl, b2⟩; have HB2 := Lib.hid b2; clear b2)
  have HX7 := Lib.hid (RecAt.new w2 (sevC z0 z1 z2 z3 z4 z5 z6) 76)
  have hba : Below w2.heap.size w2 (w2.alloc (.cells (sevC z0 z1 z2 z3 z4 z5 z6) 76)) := (Below.refl _ _).alloc (Nat.le_refl _) _
  have HX3 := Lib.hid ((HX1.out.later HB2.out).later hba)
  have HB3 := Lib.hid ((HB1.out.trans (HB2.out.mono HB1.out.size)).trans (hba.mono (HB1.out.trans (HB2.out.mono HB1.out.size)).size))
  clear hba HX1 HB1 HB2 HSV
  generalize (w2.alloc (.cells (sevC z0 z1 z2 z3 z4 z5 z6) 76)) = w3 at *
  obtain ⟨P7, hP7⟩ : ∃ P, w2.heap.size = P := ⟨_, rfl⟩
  rw [hP7] at HX7
  rw [hP7]
  clear hP7
  have t0 := HX7.out.cell (i := 0) rfl
  obtain ⟨r0, hr0, hr00, hr01⟩ := and_lo z0 1048575 (by decide)
  rw [show ((1048575 : Nat) : Int) = 1048575 from rfl] at hr0
  go_upto_region 3 with fail
  have HN0 : Hid (1 ≤ 1 + r0 ∧ 1 + r0 ≤ 1048576) := Lib.hid (by omega)
  obtain ⟨N0, hN0⟩ : ∃ N, 1 + r0 = N := ⟨_, rfl⟩
  rw [hN0]
  rw [hN0] at HN0
  have HX8 := Lib.hid (RecAt.new w3 #[.int .i64 K, .int .i64 N0, .int .i64 0, .int .i64 0, .int .i64 0, .int .i64 0, .slice none 0 0, .slice none 0 0, .slice none 0 0, .slice none 0 0] 27)
  have hba : Below w3.heap.size w3 (w3.alloc (.cells #[.int .i64 K, .int .i64 N0, .int .i64 0, .int .i64 0, .int .i64 0, .int .i64 0, .slice none 0 0, .slice none 0 0, .slice none 0 0, .slice none 0 0] 27)) := (Below.refl _ _).alloc (Nat.le_refl _) _
  have HX64 := Lib.hid (HX3.out.later hba)
  have HX74 := Lib.hid (HX7.out.later hba)
  have HB4 := Lib.hid (HB3.out.trans (hba.mono HB3.out.size))
  have HP83 : Hid (P6 < w3.heap.size ∧ P7 < w3.heap.size) := Lib.hid ⟨HX3.out.lt, HX7.out.lt⟩
  clear hba HX3 HX7 HB3 t0 hr0 hr00 hr01 hN0 hq hq0 hq1 hk
  generalize (w3.alloc (.cells #[.int .i64 K, .int .i64 N0, .int .i64 0, .int .i64 0, .int .i64 0, .int .i64 0, .slice none 0 0, .slice none 0 0, .slice none 0 0, .slice none 0 0] 27)) = w4 at *
  obtain ⟨P8, hP8⟩ : ∃ P, w3.heap.size = P := ⟨_, rfl⟩
  rw [hP8] at HX8 HP83
  rw [hP8]
  clear hP8
  obtain ⟨y0, y1, y2, y3, y4, y5, y6, y7, y8, y9⟩ := HX8.out.c10
  have HMO : Hid (MsOk ⟨K, N0, 0, 0, 0, 0, [], [], [], []⟩) := Lib.hid (ok_0 hK HN0.out)
  have k1 : (K == 1) = false := by rcases hK with rfl | rfl | rfl <;> rfl
  have k2 : (K == 2) = false := by rcases hK with rfl | rfl | rfl <;> rfl
  have k4 : (K == 4) = false := by rcases hK with rfl | rfl | rfl <;> rfl
  have k5 : (K == 5) = false := by rcases hK with rfl | rfl | rfl <;> rfl
  have k6 : (K == 6) = false := by rcases hK with rfl | rfl | rfl <;> rfl
  have k9 : (K == 9) = false := by rcases hK with rfl | rfl | rfl <;> rfl
  clear hK
  go_wp2_with (refine wpList_rec rfl rfl P6 zeroMs #[.int .i64 K, .int .i64 N0, .int .i64 0, .int .i64 0, .int .i64 0, .int .i64 0, .slice none 0 0, .slice none 0 0, .slice none 0 0, .slice none 0 0] rfl rfl HX64.out rfl (by kernel_rfl) (by kernel_rfl) ?_; intro w8 r1 r2 r3 r4)
  refine bodyPost_ret (results_c rfl rfl r1 Try.underlying27 rfl (by kernel_rfl)) rfl ?_
  exact ⟨⟨K, N0, 0, 0, 0, 0, [], [], [], []⟩, ⟨none, 0, 0, none, 0, 0, none, 0, 0, none, 0, 0⟩, rfl, HMO.out, MsRows.nil _ _ rfl rfl rfl rfl, HB4.out.grown r4 HB4.out.size (fun k e => by cases e; exact Nat.le_of_eq HP6.out)⟩
set_option maxRecDepth 20000 in
set_option maxHeartbeats 6400000 in
theorem makeMs_5 (kd : Int) (ad : Option Addr) (n c : Nat) (zs : List Int) (ap : Option Addr) (np cp : Nat) (pl : List UInt8) (w : World) (hr : ZRow w ad c zs) (hn : zs.length = n) (hn2 : n ≤ 1000) (hp : Row w ap cp pl) (hpl : pl.length = np) (hk : 1 + bits .and .i64 kd 255 % 9 = 5) :
    Calls Try.prog 18 #[.int .i64 kd, .slice ad n c, .slice ap np cp] w (MadeP w) := by
  have HSV := Lib.hid (fun W (h : Below w.heap.size w W) => seven_any ad n c zs W (hr.later h) hn)
  have HR := Lib.hid hr
  have HN := Lib.hid hn
  have HPL := Lib.hid hp
  have HPN := Lib.hid hpl
  have hcp := hp.1
  rw [hpl] at hcp
  have hcpm : cp ≤ 9223372036854775807 := by have := hp.2.1; unfold maxLen at this; omega
  have HB1 := Lib.hid ((Below.refl w.heap.size w).alloc (Nat.le_refl _) (.cells zeroMs 27))
  have HX1 := Lib.hid (RecAt.new w zeroMs 27)
  obtain ⟨q, hq, hq0, hq1⟩ := and_lo kd 255 (by decide)
  rw [show ((255 : Nat) : Int) = 255 from rfl] at hq
  rw [hq] at hk
  clear hr hn hp hpl
  go_enter Try.func18, Try.ntmps18
  go_upto_region 1 with fail
  simp only [zeroMs] at HB1 HX1
  generalize (w.alloc (.cells #[.int .i64 0, .int .i64 0, .int .i64 0, .int .i64 0, .int .i64 0, .int .i64 0, .slice none 0 0, .slice none 0 0, .slice none 0 0, .slice none 0 0] 27)) = w1 at *
  obtain ⟨P6, hP6⟩ : ∃ P, w.heap.size = P := ⟨_, rfl⟩
  have HP6 := Lib.hid hP6
  rw [hP6]
  rw [hP6] at HX1
  clear hP6
  go_upto_region 2 with (go_at_call 52; refine (HSV.out w1 HB1.out).mono ?_; rintro e w2 ⟨z0, z1, z2, z3, z4, z5, z6, rfl, b2⟩; have HB2 := Lib.hid b2; clear b2)
  have HX7 := Lib.hid (RecAt.new w2 (sevC z0 z1 z2 z3 z4 z5 z6) 76)
  have hba : Below w2.heap.size w2 (w2.alloc (.cells (sevC z0 z1 z2 z3 z4 z5 z6) 76)) := (Below.refl _ _).alloc (Nat.le_refl _) _
  have HX3 := Lib.hid ((HX1.out.later HB2.out).later hba)
  have HB3 := Lib.hid ((HB1.out.trans (HB2.out.mono HB1.out.size)).trans (hba.mono (HB1.out.trans (HB2.out.mono HB1.out.size)).size))
  clear hba HX1 HB1 HB2 HSV
  generalize (w2.alloc (.cells (sevC z0 z1 z2 z3 z4 z5 z6) 76)) = w3 at *
  obtain ⟨P7, hP7⟩ : ∃ P, w2.heap.size = P := ⟨_, rfl⟩
  rw [hP7] at HX7
  rw [hP7]
  clear hP7
  have t0 := HX7.out.cell (i := 0) rfl
  obtain ⟨r0, hr0, hr00, hr01⟩ := and_lo z0 1048575 (by decide)
  rw [show ((1048575 : Nat) : Int) = 1048575 from rfl] at hr0
  go_upto_region 3 with fail
  have HN0 : Hid (1 ≤ 1 + r0 ∧ 1 + r0 ≤ 1048576) := Lib.hid (by omega)
  obtain ⟨N0, hN0⟩ : ∃ N, 1 + r0 = N := ⟨_, rfl⟩
  rw [hN0]
  rw [hN0] at HN0
  have HX8 := Lib.hid (RecAt.new w3 #[.int .i64 5, .int .i64 N0, .int .i64 0, .int .i64 0, .int .i64 0, .int .i64 0, .slice none 0 0, .slice none 0 0, .slice none 0 0, .slice none 0 0] 27)
  have hba : Below w3.heap.size w3 (w3.alloc (.cells #[.int .i64 5, .int .i64 N0, .int .i64 0, .int .i64 0, .int .i64 0, .int .i64 0, .slice none 0 0, .slice none 0 0, .slice none 0 0, .slice none 0 0] 27)) := (Below.refl _ _).alloc (Nat.le_refl _) _
  have HX64 := Lib.hid (HX3.out.later hba)
  have HX74 := Lib.hid (HX7.out.later hba)
  have HB4 := Lib.hid (HB3.out.trans (hba.mono HB3.out.size))
  have HP83 : Hid (P6 < w3.heap.size ∧ P7 < w3.heap.size) := Lib.hid ⟨HX3.out.lt, HX7.out.lt⟩
  clear hba HX3 HX7 HB3 t0 hr0 hr00 hr01 hN0 hq hq0 hq1 hk
  generalize (w3.alloc (.cells #[.int .i64 5, .int .i64 N0, .int .i64 0, .int .i64 0, .int .i64 0, .int .i64 0, .slice none 0 0, .slice none 0 0, .slice none 0 0, .slice none 0 0] 27)) = w4 at *
  obtain ⟨P8, hP8⟩ : ∃ P, w3.heap.size = P := ⟨_, rfl⟩
  rw [hP8] at HX8 HP83
  rw [hP8]
  clear hP8
  obtain ⟨y0, y1, y2, y3, y4, y5, y6, y7, y8, y9⟩ := HX8.out.c10
  have t1 := HX74.out.cell (i := 1) rfl
  obtain ⟨v1, hv1, hv10, hv11⟩ := and_lo z1 15 (by decide)
  rw [show ((15 : Nat) : Int) = 15 from rfl] at hv1 hv11
  have t2 := HX74.out.cell (i := 2) rfl
  obtain ⟨v2, hv2, hv20, hv21⟩ := and_lo z2 511 (by decide)
  rw [show ((511 : Nat) : Int) = 511 from rfl] at hv2 hv21
  have f2 := HX8.out.frozen 4
  have f3 := HX8.out.frozen 5
  have HMO : Hid (MsOk ⟨5, N0, 0, 0, v1, v2, [], [], [], []⟩) := Lib.hid (ok_5 HN0.out ⟨hv10, hv11⟩ ⟨hv20, hv21⟩)
  have t3 : (w4.setCell ⟨P8, 4, none⟩ (.int .i64 v1)).drew.cell? ⟨P7, 2, none⟩ = some (.int .i64 z2) := ((HX74.out.other (y := P8) (by have := HP83.out; omega) 4 (.int .i64 v1)).later (Below.refl _ _).drew).cell rfl
  clear hv10 hv11 hv20 hv21
  go_upto_region 19 with fail
  go_region
  have HX85 := Lib.hid (((HX8.out.set 4 (.int .i64 v1)).set 5 (.int .i64 v2)).later (Below.refl _ _).drew)
  simp only [List.setIfInBounds_toArray, List.set_cons_zero, List.set_cons_succ] at HX85
  have HX65 := Lib.hid (((HX64.out.other (y := P8) (by have := HP83.out; omega) 4 (.int .i64 v1)).other (y := P8) (by have := HP83.out; omega) 5 (.int .i64 v2)).later (Below.refl _ _).drew)
  have HB5 := Lib.hid (((HB4.out.setCell (p := ⟨P8, 4, none⟩) (by have := HP83.out; have := HP6.out; simp only; omega) (.int .i64 v1)).setCell (p := ⟨P8, 5, none⟩) (by have := HP83.out; have := HP6.out; simp only; omega) (.int .i64 v2)).drew)
  have HX75 := Lib.hid (((HX74.out.other (y := P8) (by have := HP83.out; omega) 4 (.int .i64 v1)).other (y := P8) (by have := HP83.out; omega) 5 (.int .i64 v2)).later (Below.refl _ _).drew)
  generalize (((w4.setCell ⟨P8, 4, none⟩ (.int .i64 v1)).setCell ⟨P8, 5, none⟩ (.int .i64 v2)).drew) = w5 at *
  clear HX8 HX64 HX74 HB4 y0 y1 y2 y3 y4 y5 y6 y7 y8 y9
  obtain ⟨y0, y1, y2, y3, y4, y5, y6, y7, y8, y9⟩ := HX85.out.c10
  go_wp2_with (refine wpList_rec rfl rfl P6 zeroMs #[.int .i64 5, .int .i64 N0, .int .i64 0, .int .i64 0, .int .i64 v1, .int .i64 v2, .slice none 0 0, .slice none 0 0, .slice none 0 0, .slice none 0 0] rfl rfl HX65.out rfl (by kernel_rfl) (by kernel_rfl) ?_; intro w8 r1 r2 r3 r4)
  refine bodyPost_ret (results_c rfl rfl r1 Try.underlying27 rfl (by kernel_rfl)) rfl ?_
  exact ⟨⟨5, N0, 0, 0, v1, v2, [], [], [], []⟩, ⟨none, 0, 0, none, 0, 0, none, 0, 0, none, 0, 0⟩, rfl, HMO.out, MsRows.nil _ _ rfl rfl rfl rfl, HB5.out.grown r4 HB5.out.size (fun k e => by cases e; exact Nat.le_of_eq HP6.out)⟩
set_option maxRecDepth 20000 in
set_option maxHeartbeats 6400000 in
theorem makeMs_6 (kd : Int) (ad : Option Addr) (n c : Nat) (zs : List Int) (ap : Option Addr) (np cp : Nat) (pl : List UInt8) (w : World) (hr : ZRow w ad c zs) (hn : zs.length = n) (hn2 : n ≤ 1000) (hp : Row w ap cp pl) (hpl : pl.length = np) (hk : 1 + bits .and .i64 kd 255 % 9 = 6) :
    Calls Try.prog 18 #[.int .i64 kd, .slice ad n c, .slice ap np cp] w (MadeP w) := by
  have HSV := Lib.hid (fun W (h : Below w.heap.size w W) => seven_any ad n c zs W (hr.later h) hn)
  have HR := Lib.hid hr
  have HN := Lib.hid hn
  have HPL := Lib.hid hp
  have HPN := Lib.hid hpl
  have hcp := hp.1
  rw [hpl] at hcp
  have hcpm : cp ≤ 9223372036854775807 := by have := hp.2.1; unfold maxLen at this; omega
  have HB1 := Lib.hid ((Below.refl w.heap.size w).alloc (Nat.le_refl _) (.cells zeroMs 27))
  have HX1 := Lib.hid (RecAt.new w zeroMs 27)
  obtain ⟨q, hq, hq0, hq1⟩ := and_lo kd 255 (by decide)
  rw [show ((255 : Nat) : Int) = 255 from rfl] at hq
  rw [hq] at hk
  clear hr hn hp hpl
  go_enter Try.func18, Try.ntmps18
  go_upto_region 1 with fail
  simp only [zeroMs] at HB1 HX1
  generalize (w.alloc (.cells #[.int .i64 0, .int .i64 0, .int .i64 0, .int .i64 0, .int .i64 0, .int .i64 0, .slice none 0 0, .slice none 0 0, .slice none 0 0, .slice none 0 0] 27)) = w1 at *
  obtain ⟨P6, hP6⟩ : ∃ P, w.heap.size = P := ⟨_, rfl⟩
  have HP6 := Lib.hid hP6
  rw [hP6]
  rw [hP6] at HX1
  clear hP6
  go_upto_region 2 with (go_at_call 52; refine (HSV.out w1 HB1.out).mono ?_; rintro e w2 ⟨z0, z1, z2, z3, z4, z5, z6, rfl, b2⟩; have HB2 := Lib.hid b2; clear b2)
  have HX7 := Lib.hid (RecAt.new w2 (sevC z0 z1 z2 z3 z4 z5 z6) 76)
  have hba : Below w2.heap.size w2 (w2.alloc (.cells (sevC z0 z1 z2 z3 z4 z5 z6) 76)) := (Below.refl _ _).alloc (Nat.le_refl _) _
  have HX3 := Lib.hid ((HX1.out.later HB2.out).later hba)
  have HB3 := Lib.hid ((HB1.out.trans (HB2.out.mono HB1.out.size)).trans (hba.mono (HB1.out.trans (HB2.out.mono HB1.out.size)).size))
  clear hba HX1 HB1 HB2 HSV
  generalize (w2.alloc (.cells (sevC z0 z1 z2 z3 z4 z5 z6) 76)) = w3 at *
  obtain ⟨P7, hP7⟩ : ∃ P, w2.heap.size = P := ⟨_, rfl⟩
  rw [hP7] at HX7
  rw [hP7]
  clear hP7
  have t0 := HX7.out.cell (i := 0) rfl
  obtain ⟨r0, hr0, hr00, hr01⟩ := and_lo z0 1048575 (by decide)
  rw [show ((1048575 : Nat) : Int) = 1048575 from rfl] at hr0
  go_upto_region 3 with fail
  have HN0 : Hid (1 ≤ 1 + r0 ∧ 1 + r0 ≤ 1048576) := Lib.hid (by omega)
  obtain ⟨N0, hN0⟩ : ∃ N, 1 + r0 = N := ⟨_, rfl⟩
  rw [hN0]
  rw [hN0] at HN0
  have HX8 := Lib.hid (RecAt.new w3 #[.int .i64 6, .int .i64 N0, .int .i64 0, .int .i64 0, .int .i64 0, .int .i64 0, .slice none 0 0, .slice none 0 0, .slice none 0 0, .slice none 0 0] 27)
  have hba : Below w3.heap.size w3 (w3.alloc (.cells #[.int .i64 6, .int .i64 N0, .int .i64 0, .int .i64 0, .int .i64 0, .int .i64 0, .slice none 0 0, .slice none 0 0, .slice none 0 0, .slice none 0 0] 27)) := (Below.refl _ _).alloc (Nat.le_refl _) _
  have HX64 := Lib.hid (HX3.out.later hba)
  have HX74 := Lib.hid (HX7.out.later hba)
  have HB4 := Lib.hid (HB3.out.trans (hba.mono HB3.out.size))
  have HP83 : Hid (P6 < w3.heap.size ∧ P7 < w3.heap.size) := Lib.hid ⟨HX3.out.lt, HX7.out.lt⟩
  clear hba HX3 HX7 HB3 t0 hr0 hr00 hr01 hN0 hq hq0 hq1 hk
  generalize (w3.alloc (.cells #[.int .i64 6, .int .i64 N0, .int .i64 0, .int .i64 0, .int .i64 0, .int .i64 0, .slice none 0 0, .slice none 0 0, .slice none 0 0, .slice none 0 0] 27)) = w4 at *
  obtain ⟨P8, hP8⟩ : ∃ P, w3.heap.size = P := ⟨_, rfl⟩
  rw [hP8] at HX8 HP83
  rw [hP8]
  clear hP8
  obtain ⟨y0, y1, y2, y3, y4, y5, y6, y7, y8, y9⟩ := HX8.out.c10
  have t1 := HX74.out.cell (i := 1) rfl
  obtain ⟨v1, hv1, hv10, hv11⟩ := and_lo z1 15 (by decide)
  rw [show ((15 : Nat) : Int) = 15 from rfl] at hv1 hv11
  have t2 := HX74.out.cell (i := 2) rfl
  obtain ⟨v2, hv2, hv20, hv21⟩ := and_lo z2 511 (by decide)
  rw [show ((511 : Nat) : Int) = 511 from rfl] at hv2 hv21
  have f2 := HX8.out.frozen 4
  have f3 := HX8.out.frozen 5
  have HMO : Hid (∀ D : List UInt8, D.length ≤ 64 → MsOk ⟨6, N0, 0, 0, v1, v2, [], [], [], D⟩) := Lib.hid (fun D hD => ok_6 HN0.out ⟨hv10, hv11⟩ ⟨hv20, hv21⟩ hD)
  have t3 : (w4.setCell ⟨P8, 4, none⟩ (.int .i64 v1)).drew.cell? ⟨P7, 2, none⟩ = some (.int .i64 z2) := ((HX74.out.other (y := P8) (by have := HP83.out; omega) 4 (.int .i64 v1)).later (Below.refl _ _).drew).cell rfl
  clear hv10 hv11 hv20 hv21
  go_upto_region 19 with fail
  go_region
  have HX85 := Lib.hid (((HX8.out.set 4 (.int .i64 v1)).set 5 (.int .i64 v2)).later (Below.refl _ _).drew)
  simp only [List.setIfInBounds_toArray, List.set_cons_zero, List.set_cons_succ] at HX85
  have HX65 := Lib.hid (((HX64.out.other (y := P8) (by have := HP83.out; omega) 4 (.int .i64 v1)).other (y := P8) (by have := HP83.out; omega) 5 (.int .i64 v2)).later (Below.refl _ _).drew)
  have HB5 := Lib.hid (((HB4.out.setCell (p := ⟨P8, 4, none⟩) (by have := HP83.out; have := HP6.out; simp only; omega) (.int .i64 v1)).setCell (p := ⟨P8, 5, none⟩) (by have := HP83.out; have := HP6.out; simp only; omega) (.int .i64 v2)).drew)
  have HX75 := Lib.hid (((HX74.out.other (y := P8) (by have := HP83.out; omega) 4 (.int .i64 v1)).other (y := P8) (by have := HP83.out; omega) 5 (.int .i64 v2)).later (Below.refl _ _).drew)
  generalize (((w4.setCell ⟨P8, 4, none⟩ (.int .i64 v1)).setCell ⟨P8, 5, none⟩ (.int .i64 v2)).drew) = w5 at *
  clear HX8 HX64 HX74 HB4 y0 y1 y2 y3 y4 y5 y6 y7 y8 y9
  obtain ⟨y0, y1, y2, y3, y4, y5, y6, y7, y8, y9⟩ := HX85.out.c10
  have HPL5 := Lib.hid (HPL.out.later HB5.out)
  obtain ⟨L, hL⟩ : ∃ L, min np 64 = L := ⟨_, rfl⟩
  have hL2 : min ((np : Nat) : Int) 64 = (L : Nat) := by omega
  have hLn : L ≤ np := by omega
  have hL64 : L ≤ 64 := by omega
  clear hL
  have HSL := fun W => run_slB (W := W) HPL5.out HPN.out hLn
  have f9 := HX85.out.frozen 9
  have HX86 := Lib.hid (HX85.out.set 9 (.slice ap L cp))
  have HX66 := Lib.hid (HX65.out.other (y := P8) (by have := HP83.out; omega) 9 (.slice ap L cp))
  have HB6 := Lib.hid (HB5.out.setCell (p := ⟨P8, 9, none⟩) (by have := HP83.out; have := HP6.out; simp only; omega) (.slice ap L cp))
  simp only [List.setIfInBounds_toArray, List.set_cons_zero, List.set_cons_succ] at HX86
  go_upto_region 24 with fail
  generalize (w5.setCell ⟨P8, 9, none⟩ (.slice ap L cp)) = w6 at *
  clear HX85 HX65 HB5 y0 y1 y2 y3 y4 y5 y6 y7 y8 y9 HSL
  obtain ⟨y0, y1, y2, y3, y4, y5, y6, y7, y8, y9⟩ := HX86.out.c10
  have HDL : Hid ((pl.take L).length = L) := Lib.hid (by rw [List.length_take, HPN.out]; omega)
  have HML := Lib.hid (HMO.out (pl.take L) (by rw [HDL.out]; exact hL64))
  go_wp2_with (refine wpList_rec rfl rfl P6 zeroMs #[.int .i64 6, .int .i64 N0, .int .i64 0, .int .i64 0, .int .i64 v1, .int .i64 v2, .slice none 0 0, .slice none 0 0, .slice none 0 0, .slice ap L cp] rfl rfl HX66.out rfl (by kernel_rfl) (by kernel_rfl) ?_; intro w8 r1 r2 r3 r4)
  refine bodyPost_ret (results_c rfl rfl r1 Try.underlying27 rfl (by kernel_rfl)) rfl ?_
  exact ⟨⟨6, N0, 0, 0, v1, v2, [], [], [], pl.take L⟩, ⟨none, 0, 0, none, 0, 0, none, 0, 0, ap, L, cp⟩, rfl, HML.out, ⟨TRow.nil _, ERow.nil _, GRow.nil _ _, (HPL.out.later (HB6.out.grown r4 HB6.out.size (fun k e => by cases e; exact Nat.le_of_eq HP6.out))).take L, rfl, rfl, rfl, HDL.out⟩, HB6.out.grown r4 HB6.out.size (fun k e => by cases e; exact Nat.le_of_eq HP6.out)⟩
set_option maxRecDepth 20000 in
set_option maxHeartbeats 6400000 in
theorem makeMs_9 (kd : Int) (ad : Option Addr) (n c : Nat) (zs : List Int) (ap : Option Addr) (np cp : Nat) (pl : List UInt8) (w : World) (hr : ZRow w ad c zs) (hn : zs.length = n) (hn2 : n ≤ 1000) (hp : Row w ap cp pl) (hpl : pl.length = np) (hk : 1 + bits .and .i64 kd 255 % 9 = 9) :
    Calls Try.prog 18 #[.int .i64 kd, .slice ad n c, .slice ap np cp] w (MadeP w) := by
  have HSV := Lib.hid (fun W (h : Below w.heap.size w W) => seven_any ad n c zs W (hr.later h) hn)
  have HR := Lib.hid hr
  have HN := Lib.hid hn
  have HPL := Lib.hid hp
  have HPN := Lib.hid hpl
  have hcp := hp.1
  rw [hpl] at hcp
  have hcpm : cp ≤ 9223372036854775807 := by have := hp.2.1; unfold maxLen at this; omega
  have HB1 := Lib.hid ((Below.refl w.heap.size w).alloc (Nat.le_refl _) (.cells zeroMs 27))
  have HX1 := Lib.hid (RecAt.new w zeroMs 27)
  obtain ⟨q, hq, hq0, hq1⟩ := and_lo kd 255 (by decide)
  rw [show ((255 : Nat) : Int) = 255 from rfl] at hq
  rw [hq] at hk
  clear hr hn hp hpl
  go_enter Try.func18, Try.ntmps18
  go_upto_region 1 with fail
  simp only [zeroMs] at HB1 HX1
  generalize (w.alloc (.cells #[.int .i64 0, .int .i64 0, .int .i64 0, .int .i64 0, .int .i64 0, .int .i64 0, .slice none 0 0, .slice none 0 0, .slice none 0 0, .slice none 0 0] 27)) = w1 at *
  obtain ⟨P6, hP6⟩ : ∃ P, w.heap.size = P := ⟨_, rfl⟩
  have HP6 := Lib.hid hP6
  rw [hP6]
  rw [hP6] at HX1
  clear hP6
  go_upto_region 2 with (go_at_call 52; refine (HSV.out w1 HB1.out).mono ?_; rintro e w2 ⟨z0, z1, z2, z3, z4, z5, z6, rfl, b2⟩; have HB2 := Lib.hid b2; clear b2)
  have HX7 := Lib.hid (RecAt.new w2 (sevC z0 z1 z2 z3 z4 z5 z6) 76)
  have hba : Below w2.heap.size w2 (w2.alloc (.cells (sevC z0 z1 z2 z3 z4 z5 z6) 76)) := (Below.refl _ _).alloc (Nat.le_refl _) _
  have HX3 := Lib.hid ((HX1.out.later HB2.out).later hba)
  have HB3 := Lib.hid ((HB1.out.trans (HB2.out.mono HB1.out.size)).trans (hba.mono (HB1.out.trans (HB2.out.mono HB1.out.size)).size))
  clear hba HX1 HB1 HB2 HSV
  generalize (w2.alloc (.cells (sevC z0 z1 z2 z3 z4 z5 z6) 76)) = w3 at *
  obtain ⟨P7, hP7⟩ : ∃ P, w2.heap.size = P := ⟨_, rfl⟩
  rw [hP7] at HX7
  rw [hP7]
  clear hP7
  have t0 := HX7.out.cell (i := 0) rfl
  obtain ⟨r0, hr0, hr00, hr01⟩ := and_lo z0 1048575 (by decide)
  rw [show ((1048575 : Nat) : Int) = 1048575 from rfl] at hr0
  go_upto_region 3 with fail
  have HN0 : Hid (1 ≤ 1 + r0 ∧ 1 + r0 ≤ 1048576) := Lib.hid (by omega)
  obtain ⟨N0, hN0⟩ : ∃ N, 1 + r0 = N := ⟨_, rfl⟩
  rw [hN0]
  rw [hN0] at HN0
  have HX8 := Lib.hid (RecAt.new w3 #[.int .i64 9, .int .i64 N0, .int .i64 0, .int .i64 0, .int .i64 0, .int .i64 0, .slice none 0 0, .slice none 0 0, .slice none 0 0, .slice none 0 0] 27)
  have hba : Below w3.heap.size w3 (w3.alloc (.cells #[.int .i64 9, .int .i64 N0, .int .i64 0, .int .i64 0, .int .i64 0, .int .i64 0, .slice none 0 0, .slice none 0 0, .slice none 0 0, .slice none 0 0] 27)) := (Below.refl _ _).alloc (Nat.le_refl _) _
  have HX64 := Lib.hid (HX3.out.later hba)
  have HX74 := Lib.hid (HX7.out.later hba)
  have HB4 := Lib.hid (HB3.out.trans (hba.mono HB3.out.size))
  have HP83 : Hid (P6 < w3.heap.size ∧ P7 < w3.heap.size) := Lib.hid ⟨HX3.out.lt, HX7.out.lt⟩
  clear hba HX3 HX7 HB3 t0 hr0 hr00 hr01 hN0 hq hq0 hq1 hk
  generalize (w3.alloc (.cells #[.int .i64 9, .int .i64 N0, .int .i64 0, .int .i64 0, .int .i64 0, .int .i64 0, .slice none 0 0, .slice none 0 0, .slice none 0 0, .slice none 0 0] 27)) = w4 at *
  obtain ⟨P8, hP8⟩ : ∃ P, w3.heap.size = P := ⟨_, rfl⟩
  rw [hP8] at HX8 HP83
  rw [hP8]
  clear hP8
  obtain ⟨y0, y1, y2, y3, y4, y5, y6, y7, y8, y9⟩ := HX8.out.c10
  have t1 := HX74.out.cell (i := 1) rfl
  obtain ⟨v1, hv1, hv10, hv11⟩ := and_lo z1 255 (by decide)
  rw [show ((255 : Nat) : Int) = 255 from rfl] at hv1 hv11
  obtain ⟨V, hV⟩ : ∃ V, 1 + v1 % 13 = V := ⟨_, rfl⟩
  have hVr : 1 ≤ V ∧ V ≤ 13 := by omega
  have f5 := HX8.out.frozen 5
  have HMO : Hid (MsOk ⟨9, N0, 0, 0, 0, V, [], [], [], []⟩) := Lib.hid (ok_9 HN0.out hVr)
  clear hVr
  go_upto_region 24 with fail
  have HX85 := Lib.hid (HX8.out.set 5 (.int .i64 V))
  simp only [List.setIfInBounds_toArray, List.set_cons_zero, List.set_cons_succ] at HX85
  have HX65 := Lib.hid (HX64.out.other (y := P8) (by have := HP83.out; omega) 5 (.int .i64 V))
  have HB5 := Lib.hid (HB4.out.setCell (p := ⟨P8, 5, none⟩) (by have := HP83.out; have := HP6.out; simp only; omega) (.int .i64 V))
  generalize (w4.setCell ⟨P8, 5, none⟩ (.int .i64 V)) = w5 at *
  clear HX8 HX64 HB4 y0 y1 y2 y3 y4 y5 y6 y7 y8 y9
  obtain ⟨y0, y1, y2, y3, y4, y5, y6, y7, y8, y9⟩ := HX85.out.c10
  go_wp2_with (refine wpList_rec rfl rfl P6 zeroMs #[.int .i64 9, .int .i64 N0, .int .i64 0, .int .i64 0, .int .i64 0, .int .i64 V, .slice none 0 0, .slice none 0 0, .slice none 0 0, .slice none 0 0] rfl rfl HX65.out rfl (by kernel_rfl) (by kernel_rfl) ?_; intro w8 r1 r2 r3 r4)
  refine bodyPost_ret (results_c rfl rfl r1 Try.underlying27 rfl (by kernel_rfl)) rfl ?_
  exact ⟨⟨9, N0, 0, 0, 0, V, [], [], [], []⟩, ⟨none, 0, 0, none, 0, 0, none, 0, 0, none, 0, 0⟩, rfl, HMO.out, MsRows.nil _ _ rfl rfl rfl rfl, HB5.out.grown r4 HB5.out.size (fun k e => by cases e; exact Nat.le_of_eq HP6.out)⟩
end Go.Proofs.Ytiahifpbofkimaa
namespace Go.Proofs.Ytiahifpbofkimaa
open Go.RowKit Go.Proofs
set_option linter.unusedVariables false
set_option linter.unusedSimpArgs false
set_option linter.unnecessarySimpa false

theorem grow_news {α : Type} {R : RT α} (hR : R.Ok) (w0 : World) {ts : List α} {n : Nat} (hn : ts.length = n) (hm : n ≤ 1000) (hB : ∀ t ∈ ts, R.B t) {cs : Array Value} (hc : cs.toList = ts.flatMap R.V) (E : TypeId) : GRow R (w0.alloc (.cells cs E)) (some ⟨w0.heap.size, 0, none⟩) n ts := by
  have hrec := RecAt.new w0 cs E
  refine ⟨by omega, by unfold maxLen; omega, fun e => (by cases e), hB, fun x hx i s hs => ?_⟩
  cases hx
  refine ⟨rfl, fun k v hv => ?_⟩
  have hk : k < R.sz := by have := (List.getElem?_eq_some_iff.1 hv).1; rwa [hR.len] at this
  have h2 := flat_getG hR hs k hk
  rw [hv, ← hc] at h2
  have := hrec.cell (i := i * R.sz + k) (v := v) (by simpa using h2)
  simpa using this
theorem nms_rec {w : World} {P : Nat} {cs : Array Value} {T : TypeId} (h : RecAt w P cs T) (hT : T ≠ 27) : NMs w (some ⟨P, 0, none⟩) := fun x hx => by
  cases hx
  refine ⟨h.lt, fun cs' hr => ?_⟩
  unfold RecAt at h hr
  simp only at hr
  rw [h] at hr
  simp only [Option.some.injEq, Obj.cells.injEq] at hr
  exact hT hr.2.1
theorem marks_two {V2 V3 : Int} (h2 : 1 ≤ V2 ∧ V2 ≤ 8) (h3 : 0 ≤ V3 ∧ V3 ≤ 511) : MarksSent [⟨V2, ⟨#[97]⟩, V3, false⟩, ⟨9, ⟨#[126, 110]⟩, 0, false⟩] := by
  refine ⟨by simp, by simp, fun i hi t ht => ?_⟩
  match i, hi with
  | 0, _ => simp only [List.getElem?_cons_zero, Option.some.injEq] at ht; subst ht; exact ⟨by simp only; omega, by simp only; omega, by simp only; omega, by simp only; omega, (show markL [97] = true by decide)⟩
  | 1, _ => simp only [List.getElem?_cons_succ, List.getElem?_cons_zero, Option.some.injEq] at ht; subst ht; exact ⟨by decide, by decide, by decide, by decide, by decide⟩
set_option maxRecDepth 20000 in
set_option maxHeartbeats 6400000 in
theorem makeMs_4 (kd : Int) (ad : Option Addr) (n c : Nat) (zs : List Int) (ap : Option Addr) (np cp : Nat) (pl : List UInt8) (w : World) (hr : ZRow w ad c zs) (hn : zs.length = n) (hn2 : n ≤ 1000) (hp : Row w ap cp pl) (hpl : pl.length = np) (hk : 1 + bits .and .i64 kd 255 % 9 = 4) :
    Calls Try.prog 18 #[.int .i64 kd, .slice ad n c, .slice ap np cp] w (MadeP w) := by
  have HSV := Lib.hid (fun W (h : Below w.heap.size w W) => seven_any ad n c zs W (hr.later h) hn)
  have HR := Lib.hid hr
  have HN := Lib.hid hn
  have HPL := Lib.hid hp
  have HPN := Lib.hid hpl
  have hcp := hp.1
  rw [hpl] at hcp
  have hcpm : cp ≤ 9223372036854775807 := by have := hp.2.1; unfold maxLen at this; omega
  have HB1 := Lib.hid ((Below.refl w.heap.size w).alloc (Nat.le_refl _) (.cells zeroMs 27))
  have HX1 := Lib.hid (RecAt.new w zeroMs 27)
  obtain ⟨q, hq, hq0, hq1⟩ := and_lo kd 255 (by decide)
  rw [show ((255 : Nat) : Int) = 255 from rfl] at hq
  rw [hq] at hk
  clear hr hn hp hpl
  go_enter Try.func18, Try.ntmps18
  go_upto_region 1 with fail
  simp only [zeroMs] at HB1 HX1
  generalize (w.alloc (.cells #[.int .i64 0, .int .i64 0, .int .i64 0, .int .i64 0, .int .i64 0, .int .i64 0, .slice none 0 0, .slice none 0 0, .slice none 0 0, .slice none 0 0] 27)) = w1 at *
  obtain ⟨P6, hP6⟩ : ∃ P, w.heap.size = P := ⟨_, rfl⟩
  have HP6 := Lib.hid hP6
  rw [hP6]
  rw [hP6] at HX1
  clear hP6
  go_upto_region 2 with (go_at_call 52; refine (HSV.out w1 HB1.out).mono ?_; rintro e w2 ⟨z0, z1, z2, z3, z4, z5, z6, rfl, b2⟩; have HB2 := Lib.hid b2; clear b2)
  have HX7 := Lib.hid (RecAt.new w2 (sevC z0 z1 z2 z3 z4 z5 z6) 76)
  have hba : Below w2.heap.size w2 (w2.alloc (.cells (sevC z0 z1 z2 z3 z4 z5 z6) 76)) := (Below.refl _ _).alloc (Nat.le_refl _) _
  have HX3 := Lib.hid ((HX1.out.later HB2.out).later hba)
  have HB3 := Lib.hid ((HB1.out.trans (HB2.out.mono HB1.out.size)).trans (hba.mono (HB1.out.trans (HB2.out.mono HB1.out.size)).size))
  clear hba HX1 HB1 HB2 HSV
  generalize (w2.alloc (.cells (sevC z0 z1 z2 z3 z4 z5 z6) 76)) = w3 at *
  obtain ⟨P7, hP7⟩ : ∃ P, w2.heap.size = P := ⟨_, rfl⟩
  rw [hP7] at HX7
  rw [hP7]
  clear hP7
  have t0 := HX7.out.cell (i := 0) rfl
  obtain ⟨r0, hr0, hr00, hr01⟩ := and_lo z0 1048575 (by decide)
  rw [show ((1048575 : Nat) : Int) = 1048575 from rfl] at hr0
  go_upto_region 3 with fail
  have HN0 : Hid (1 ≤ 1 + r0 ∧ 1 + r0 ≤ 1048576) := Lib.hid (by omega)
  obtain ⟨N0, hN0⟩ : ∃ N, 1 + r0 = N := ⟨_, rfl⟩
  rw [hN0]
  rw [hN0] at HN0
  have HX8 := Lib.hid (RecAt.new w3 #[.int .i64 4, .int .i64 N0, .int .i64 0, .int .i64 0, .int .i64 0, .int .i64 0, .slice none 0 0, .slice none 0 0, .slice none 0 0, .slice none 0 0] 27)
  have hba : Below w3.heap.size w3 (w3.alloc (.cells #[.int .i64 4, .int .i64 N0, .int .i64 0, .int .i64 0, .int .i64 0, .int .i64 0, .slice none 0 0, .slice none 0 0, .slice none 0 0, .slice none 0 0] 27)) := (Below.refl _ _).alloc (Nat.le_refl _) _
  have HX64 := Lib.hid (HX3.out.later hba)
  have HX74 := Lib.hid (HX7.out.later hba)
  have HB4 := Lib.hid (HB3.out.trans (hba.mono HB3.out.size))
  have HP83 : Hid (P6 < w3.heap.size ∧ P7 < w3.heap.size) := Lib.hid ⟨HX3.out.lt, HX7.out.lt⟩
  clear hba HX3 HX7 HB3 t0 hr0 hr00 hr01 hN0 hq hq0 hq1 hk
  generalize (w3.alloc (.cells #[.int .i64 4, .int .i64 N0, .int .i64 0, .int .i64 0, .int .i64 0, .int .i64 0, .slice none 0 0, .slice none 0 0, .slice none 0 0, .slice none 0 0] 27)) = w4 at *
  obtain ⟨P8, hP8⟩ : ∃ P, w3.heap.size = P := ⟨_, rfl⟩
  rw [hP8] at HX8 HP83
  rw [hP8]
  clear hP8
  obtain ⟨y0, y1, y2, y3, y4, y5, y6, y7, y8, y9⟩ := HX8.out.c10
  have t1 := HX74.out.cell (i := 1) rfl
  obtain ⟨v1, hv1, hv10, hv11⟩ := and_lo z1 65535 (by decide)
  rw [show ((65535 : Nat) : Int) = 65535 from rfl] at hv1 hv11
  have t2 := HX74.out.cell (i := 2) rfl
  obtain ⟨v2, hv2, hv20, hv21⟩ := and_lo z2 7 (by decide)
  rw [show ((7 : Nat) : Int) = 7 from rfl] at hv2 hv21
  have t3 := HX74.out.cell (i := 3) rfl
  obtain ⟨v3, hv3, hv30, hv31⟩ := and_lo z3 511 (by decide)
  rw [show ((511 : Nat) : Int) = 511 from rfl] at hv3 hv31
  have HGW := Lib.hid (fun W (h : Below w.heap.size w W) => grow_any ad n c zs W (HR.out.later h) HN.out hn2)
  have f2 := HX8.out.frozen 2
  have HV1 : Hid (0 ≤ v1 ∧ v1 ≤ 65535) := Lib.hid ⟨hv10, hv11⟩
  have HMT : Hid (MarksSent [⟨1 + v2, ⟨#[97]⟩, v3, false⟩, ⟨9, ⟨#[126, 110]⟩, 0, false⟩]) := Lib.hid (marks_two (by omega) (by omega))
  have HBM : Hid (Mk.B ⟨1 + v2, ⟨#[97]⟩, v3, false⟩ ∧ Mk.B ⟨9, ⟨#[126, 110]⟩, 0, false⟩) := Lib.hid ⟨⟨by unfold W64; simp only; omega, by unfold W64; simp only; omega, by simp [ByteArray.size]⟩, ⟨by unfold W64; simp only; omega, by unfold W64; simp only; omega, by simp [ByteArray.size]⟩⟩
  have hv2r : 0 ≤ v2 ∧ v2 ≤ 7 := ⟨hv20, hv21⟩
  clear hv10 hv11 hv30 hv31 hv20 hv21
  go_upto_region 15 with fail
  have HX85 := Lib.hid (HX8.out.set 2 (.int .i64 v1))
  simp only [List.setIfInBounds_toArray, List.set_cons_zero, List.set_cons_succ] at HX85
  have HX65 := Lib.hid (HX64.out.other (y := P8) (by have := HP83.out; omega) 2 (.int .i64 v1))
  have HX75 := Lib.hid (HX74.out.other (y := P8) (by have := HP83.out; omega) 2 (.int .i64 v1))
  have HB5 := Lib.hid (HB4.out.setCell (p := ⟨P8, 2, none⟩) (by have := HP83.out; have := HP6.out; simp only; omega) (.int .i64 v1))
  generalize (w4.setCell ⟨P8, 2, none⟩ (.int .i64 v1)) = w5 at *
  clear HX8 HX64 HX74 HB4 y0 y1 y2 y3 y4 y5 y6 y7 y8 y9 t1 t2 t3 f2
  have HGX := Lib.hid (HGW.out w5 HB5.out)
  clear HGW
  go_upto_region 16 with (go_at_call 53; refine HGX.out.mono ?_; rintro e w6 ⟨v6, C, E, rfl, o6, hgr⟩; obtain ⟨nc, hnc⟩ : ∃ k, C.length = k := ⟨_, rfl⟩; obtain ⟨a6, c6, rfl, rw6⟩ := o6.row_n hnc; have HC6 := Lib.hid rw6; have HNC := Lib.hid hnc; have HN6 := Lib.hid o6.nms; have HCO := Lib.hid hgr.1; have HX86 := Lib.hid (HX85.out.later o6.below); have HX66 := Lib.hid (HX65.out.later o6.below); have HX76 := Lib.hid (HX75.out.later o6.below); have HB6 := Lib.hid (HB5.out.trans (o6.below.mono HB5.out.size)); clear o6 hgr hnc rw6 HX85 HX65 HX75 HB5 HGX; obtain ⟨y0, y1, y2, y3, y4, y5, y6, y7, y8, y9⟩ := HX86.out.c10; have f6 := HX86.out.frozen 6)
  have HX87 := Lib.hid (HX86.out.set 6 (.slice a6 nc c6))
  simp only [List.setIfInBounds_toArray, List.set_cons_zero, List.set_cons_succ] at HX87
  have HX67 := Lib.hid (HX66.out.other (y := P8) (by have := HP83.out; omega) 6 (.slice a6 nc c6))
  have HX77 := Lib.hid (HX76.out.other (y := P8) (by have := HP83.out; omega) 6 (.slice a6 nc c6))
  have HB7 := Lib.hid (HB6.out.setCell (p := ⟨P8, 6, none⟩) (by have := HP83.out; have := HP6.out; simp only; omega) (.slice a6 nc c6))
  have HC7 := Lib.hid (HC6.out.only (OnlyP.set w6 P8 6 (.slice a6 nc c6)) (HN6.out.ne HX86.out))
  have HN7 := Lib.hid (HN6.out.only (OnlyP.set w6 P8 6 (.slice a6 nc c6)) HX86.out)
  generalize (w6.setCell ⟨P8, 6, none⟩ (.slice a6 nc c6)) = w7 at *
  clear HX86 HX66 HX76 HB6 HC6 HN6 y0 y1 y2 y3 y4 y5 y6 y7 y8 y9 f6
  have t2 := HX77.out.cell (i := 2) rfl
  have t3 := HX77.out.cell (i := 3) rfl
  obtain ⟨V2, hV2⟩ : ∃ V, 1 + v2 = V := ⟨_, rfl⟩
  have hw2 : IntKind.i64.wrap (1 + v2) = V2 := by rw [IntKind.wrap_i64]; omega
  rw [hV2] at HMT HBM
  have hba : Below w7.heap.size w7 (w7.alloc (.cells #[.int .i64 V2, .string ⟨#[97]⟩, .int .i64 v3, .bool false, .int .i64 9, .string ⟨#[126, 110]⟩, .int .i64 0, .bool false] 46)) := (Below.refl _ _).alloc (Nat.le_refl _) _
  have HM8 := Lib.hid (grow_news mkOk w7 (ts := [(⟨V2, ⟨#[97]⟩, v3, false⟩ : Mk), ⟨9, ⟨#[126, 110]⟩, 0, false⟩]) (n := 2) rfl (by decide) (fun t ht => by simp only [List.mem_cons, List.not_mem_nil, or_false] at ht; rcases ht with rfl | rfl; exact HBM.out.1; exact HBM.out.2) (cs := #[.int .i64 V2, .string ⟨#[97]⟩, .int .i64 v3, .bool false, .int .i64 9, .string ⟨#[126, 110]⟩, .int .i64 0, .bool false]) rfl 46)
  have HNM := Lib.hid (nms_rec (RecAt.new w7 #[.int .i64 V2, .string ⟨#[97]⟩, .int .i64 v3, .bool false, .int .i64 9, .string ⟨#[126, 110]⟩, .int .i64 0, .bool false] 46) (by decide))
  have HX88 := Lib.hid (HX87.out.later hba)
  have HX68 := Lib.hid (HX67.out.later hba)
  have HB8 := Lib.hid (HB7.out.trans (hba.mono HB7.out.size))
  have HC8 := Lib.hid (HC7.out.later hba)
  have HN8 := Lib.hid (HN7.out.later hba)
  obtain ⟨y0, y1, y2, y3, y4, y5, y6, y7, y8, y9⟩ := HX88.out.c10
  have f8 := HX88.out.frozen 8
  clear hba
  go_upto_region 24 with fail
  obtain ⟨PM, hPM⟩ : ∃ P, w7.heap.size = P := ⟨_, rfl⟩
  have hpm : P8 < PM := by rw [← hPM]; exact HX87.out.lt
  rw [hPM] at HM8 HNM
  rw [hPM]
  clear hPM
  generalize (w7.alloc (.cells #[.int .i64 V2, .string ⟨#[97]⟩, .int .i64 v3, .bool false, .int .i64 9, .string ⟨#[126, 110]⟩, .int .i64 0, .bool false] 46)) = w8 at *
  have HX89 := Lib.hid (HX88.out.set 8 (.slice (some ⟨PM, 0, none⟩) 2 2))
  simp only [List.setIfInBounds_toArray, List.set_cons_zero, List.set_cons_succ] at HX89
  have HX69 := Lib.hid (HX68.out.other (y := P8) (by have := HP83.out; omega) 8 (.slice (some ⟨PM, 0, none⟩) 2 2))
  have HB9 := Lib.hid (HB8.out.setCell (p := ⟨P8, 8, none⟩) (by have := HP83.out; have := HP6.out; simp only; omega) (.slice (some ⟨PM, 0, none⟩) 2 2))
  have HC9 := Lib.hid (HC8.out.only (OnlyP.set w8 P8 8 (.slice (some ⟨PM, 0, none⟩) 2 2)) (HN8.out.ne HX88.out))
  have HN9 := Lib.hid (HN8.out.only (OnlyP.set w8 P8 8 (.slice (some ⟨PM, 0, none⟩) 2 2)) HX88.out)
  have HM9 := Lib.hid (HM8.out.only (OnlyP.set w8 P8 8 (.slice (some ⟨PM, 0, none⟩) 2 2)) (fun x hx => by cases hx; simp only; omega))
  have HNM9 := Lib.hid (HNM.out.only (OnlyP.set w8 P8 8 (.slice (some ⟨PM, 0, none⟩) 2 2)) HX88.out)
  generalize (w8.setCell ⟨P8, 8, none⟩ (.slice (some ⟨PM, 0, none⟩) 2 2)) = w9 at *
  clear HX88 HX68 HB8 HC8 HN8 HM8 HNM HX87 HX67 HX77 HB7 HC7 HN7 t2 t3 f8 y0 y1 y2 y3 y4 y5 y6 y7 y8 y9 hw2 hV2
  obtain ⟨y0, y1, y2, y3, y4, y5, y6, y7, y8, y9⟩ := HX89.out.c10
  have HMO := Lib.hid (ok_4 HN0.out HV1.out HCO.out HMT.out)
  go_wp2_with (refine wpList_rec rfl rfl P6 zeroMs #[.int .i64 4, .int .i64 N0, .int .i64 v1, .int .i64 0, .int .i64 0, .int .i64 0, .slice a6 nc c6, .slice none 0 0, .slice (some ⟨PM, 0, none⟩) 2 2, .slice none 0 0] rfl rfl HX69.out rfl (by kernel_rfl) (by kernel_rfl) ?_; intro w8 r1 r2 r3 r4)
  refine bodyPost_ret (results_c rfl rfl r1 Try.underlying27 rfl (by kernel_rfl)) rfl ?_
  exact ⟨⟨4, N0, v1, 0, 0, 0, C, [], [⟨V2, ⟨#[97]⟩, v3, false⟩, ⟨9, ⟨#[126, 110]⟩, 0, false⟩], []⟩, ⟨a6, nc, c6, none, 0, 0, some ⟨PM, 0, none⟩, 2, 2, none, 0, 0⟩, rfl, HMO.out, MsRows.onlyN (w := w9) ⟨HC9.out, ERow.nil _, HM9.out, Row.empty _ _ _ (Nat.zero_le _) (fun _ => rfl), HNC.out, rfl, rfl, rfl⟩ ⟨HN9.out, NMs.none _, HNM9.out⟩ r3 HX69.out (noB8_ms _ _ _ _ _ _ _ _ _ _ _ _ _ _ _ _ _ _), HB9.out.grown r4 HB9.out.size (fun k e => by cases e; exact Nat.le_of_eq HP6.out)⟩
end Go.Proofs.Ytiahifpbofkimaa
