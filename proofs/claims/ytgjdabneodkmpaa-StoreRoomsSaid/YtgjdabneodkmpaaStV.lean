/- A Fall: the walk. -/
import Derived.Test.YtgjdabneodkmpaaStG
import Derived.BigQuiet
namespace Go.Proofs.Ytgjdabneodkmpaa
open Go.RowKit
set_option linter.unusedVariables false

/-- A slice of numbers that nobody writes: in blocks of no role. -/
def IRow (w : World) (r : Nat → Role) (a : Option Addr) (cap : Nat) (l : List Int) : Prop :=
  l.length ≤ cap ∧ cap ≤ maxLen ∧ (a = none → cap = 0) ∧ ∀ x, a = some x → x.block < w.heap.size ∧ r x.block = .junk ∧ ∀ (i : Nat) u, l[i]? = some u → w.cell? (x.add i) = some (.int .i64 u)
theorem add_block (x : Addr) (i : Nat) : (x.add i).block = x.block := by unfold Addr.add; split <;> rfl
theorem IRow.jk {w w' : World} {r r' : Nat → Role} {a : Option Addr} {cap : Nat} {l : List Int} (h : IRow w r a cap l) (hf : Jk w w' r r') : IRow w' r' a cap l := by
  refine ⟨h.1, h.2.1, h.2.2.1, fun x hx => ?_⟩
  obtain ⟨h1, h2, h3⟩ := h.2.2.2 x hx
  refine ⟨Nat.lt_of_lt_of_le h1 hf.size, (hf.role _ h1 (.inl h2)).trans h2, fun i u hu => ?_⟩
  rw [← h3 i u hu]
  exact World.cell?_of_block (by rw [add_block]; exact hf.block _ h1 (.inl h2))
theorem IRow.at {w : World} {r : Nat → Role} {a : Option Addr} {cap : Nat} {l : List Int} (h : IRow w r a cap l) (hl : 0 < l.length) :
    ∃ b off, a = some ⟨b, off, .none⟩ ∧ ∀ (i : Nat) u, l[i]? = some u → w.cell? ⟨b, off + i, .none⟩ = some (.int .i64 u) := by
  cases a with
  | none => have := h.2.2.1 rfl; have := h.1; omega
  | some x =>
    obtain ⟨_, _, h3⟩ := h.2.2.2 x rfl
    have h0 := h3 0 l[0] (by simp [hl])
    obtain ⟨b, off, spot⟩ := x
    have hspot : spot = .none := by simpa [Addr.add] using World.cell?_spot h0
    subst hspot
    refine ⟨b, off, rfl, fun i u hu => ?_⟩
    have := h3 i u hu
    by_cases hi : i = 0
    · subst hi; simpa [Addr.add] using this
    · simpa [Addr.add, hi] using this
theorem KRow.jk {w w' : World} {r r' : Nat → Role} {blk : Nat} {l : List K4} (h : KRow w blk l) (hf : Jk w w' r r') (hb : blk < w.heap.size) (hj : r blk = .junk) : KRow w' blk l := fun i k hk j hj4 => by
  rw [← h i k hk j hj4]
  exact World.cell?_of_block (hf.block blk hb (.inl hj))

def lfV (w0 : World) (r : Nat → Role) (k : K4) (o : Option Ob) : SV :=
  ⟨fun w v => ∃ x, v = ptrV x ∧ ∃ r', Fr w0 w r r' (ofOb true k) ∧ Dom w r' ∧ OpAt w r' true k x o,
   fun w w' v ⟨x, h0, r', h1, h2, h3⟩ hb => ⟨x, h0, r', h1.later hb, h2.later hb.size, h3.fr (Fr.of_below hb r' (fun _ => False)) (fun _ _ h => h) (fun h => h)⟩⟩
def jF (w0 : World) (b : Nat) (g : Gh) (S' : St) (X : World → (Nat → Role) → Prop) (k : K4) : Nat → World → Prop
  | 0, w => Below w0.heap.size w0 w
  | 1, w => ∃ r', Fr w0 w g.r r' (ofOb true k)
  | _, w => ∃ g', StoL w b g' S' X ∧ g'.pw = g.pw ∧ g'.wv = g.wv ∧ Jk w0 w g.r g'.r
theorem jF_st {w0 : World} {b : Nat} {g : Gh} {S' : St} {X : World → (Nat → Role) → Prop} {k : K4} (hX : WStay X) (ph : Nat) {w w' : World} (h : jF w0 b g S' X k ph w) (hb : Below w.heap.size w w') : jF w0 b g S' X k ph w' := by
  match ph, h with
  | 0, h => exact Below.trans h (hb.mono h.size)
  | 1, h => obtain ⟨r', h⟩ := h; exact ⟨r', h.later hb⟩
  | n + 2, h =>
    obtain ⟨g', h1, h2, h3, h4⟩ := h
    exact ⟨g', h1.later hX hb, h2, h3, h4.later hb⟩
theorem jF_fr {w0 w : World} {b : Nat} {g : Gh} {S' : St} {X : World → (Nat → Role) → Prop} {k : K4} (ph : Nat) (hp : ph ≤ 1) (h : jF w0 b g S' X k ph w) : ∃ r', Fr w0 w g.r r' (ofOb true k) := by
  match ph, hp, h with
  | 0, _, h => exact ⟨g.r, Fr.of_below h g.r _⟩
  | 1, _, h => exact h
theorem jF_sm {w w' : World} {b : Nat} {g : Gh} {S : St} {X : World → (Nat → Role) → Prop} {k : K4} {r' : Nat → Role} (h : StoL w b g S X) (hf : Fr w w' g.r r' (ofOb true k)) : PMap w' g.sv g.pm S.sks.length :=
  h.sm.keep fun x hx hlt => hf.block x hlt (by rw [h.sr x hx]; rintro (h | h | h) <;> cases h)
theorem ofOb_junk (p : Bool) (k : K4) : ¬ ofOb p k .junk := by rintro (h | h | h) <;> cases h
theorem ofOb_free (p : Bool) (k : K4) : ¬ ofOb p k .junk ∧ ¬ ofOb p k .own := ⟨ofOb_junk p k, fun h => by rcases h with h | h | h <;> cases h⟩

theorem StoL.fallen {w : World} {b : Nat} {g : Gh} {T : St} {X : World → (Nat → Role) → Prop} (h : StoL w b g T X) :
    Sto (((w.setCell ⟨b, 3, .none⟩ (.map .none)).setCell ⟨b, 6, .none⟩ (.pointer .none)).setCell ⟨b, 1, .none⟩ (.bool true)) b { g with wv := .map .none, pw := fun _ => .none } { T with wet := fun _ => .none, wks := [], off := true } ∧
      Jk w (((w.setCell ⟨b, 3, .none⟩ (.map .none)).setCell ⟨b, 6, .none⟩ (.pointer .none)).setCell ⟨b, 1, .none⟩ (.bool true)) g.r g.r := by
  have hf : Fr w (((w.setCell ⟨b, 3, .none⟩ (.map .none)).setCell ⟨b, 6, .none⟩ (.pointer .none)).setCell ⟨b, 1, .none⟩ (.bool true)) g.r g.r (fun t => t = .st) :=
    ((Fr.of_set (a := ⟨b, 3, .none⟩) (by exact h.role)).trans (Fr.of_set (a := ⟨b, 6, .none⟩) (by exact h.role))).trans (Fr.of_set (a := ⟨b, 1, .none⟩) (by exact h.role))
  refine ⟨⟨h.role, ?_, h.sm.keep fun x hx hlt => hf.block x hlt (by rw [h.sr x hx]; simp), h.sr, PMap.nil _, (fun x hx => nomatch hx),
    fun k' hk' => (h.seen k' hk').fr hf (by rintro t (rfl | rfl | rfl) <;> simp) (by simp), fun k' hk' => trivial, h.dom.later hf.size⟩, Jk.of_fr hf (by simp)⟩
  have h1 := heap_setCell_same w b 3 _ _ (.map .none) h.heap
  have h2 := heap_setCell_same _ b 6 _ _ (.pointer .none) h1
  have h3 := heap_setCell_same _ b 1 _ _ (.bool true) h2
  simpa using h3
theorem OwnsMap.later {w w' : World} {mb n : Nat} {D : DataW Value} (h : w.ownsMap Try.prog 27 ptrE mb n D) (hb : Below w.heap.size w w') : w'.ownsMap Try.prog 27 ptrE mb n D := by
  have hlt := h.lt
  obtain ⟨es, clock, h2, r⟩ := h
  exact ⟨es, clock, by rw [hb.block mb hlt]; exact h2, r⟩
theorem mkeys_any (w : World) (mo : Option Nat) :
    Calls Try.prog 39 #[.map mo] w fun e w' =>
      e = .returned (.func (.func 64) #[] #[.pointer (some ⟨w.heap.size, 0, .none⟩)]) ∧ Below w.heap.size w w' ∧ w'.cell? ⟨w.heap.size, 0, .none⟩ = some (.map mo) ∧ w'.heap.size = w.heap.size + 1 := by
  go_enter Try.func39, Try.ntmps39
  go_wp2_with fail
  go_ret
  refine ⟨rfl, (Below.refl _ _).alloc (Nat.le_refl _) _, ?_, by simp⟩
  exact cell_of_block (MapKept.heap_alloc w _).1 rfl

theorem Sto.keysAre {w : World} {b : Nat} {g : Gh} {S : St} (h : Sto w b g S) (hS : S.WF) : KeysAre g.pw S.wks := by
  refine ⟨hS.nd.2, fun k => ?_⟩
  rw [hS.wks k]
  constructor
  · rintro ⟨h1, h2⟩
    refine ⟨?_, h2⟩
    have := h.wet k h2
    cases hS : S.wet k with
    | none => rw [hS] at h1; cases h1
    | some p =>
      rw [hS] at this
      cases hw : g.pw k with
      | none => rw [hw] at this; exact this.elim
      | some x => rfl
  · rintro ⟨h1, h2⟩
    refine ⟨?_, h2⟩
    have := h.wet k h2
    cases hS : S.wet k with
    | some p => rfl
    | none =>
      rw [hS] at this
      cases hw : g.pw k with
      | none => rw [hw] at h1; cases h1
      | some x => rw [hw] at this; exact this.elim

set_option maxRecDepth 20000 in
set_option maxHeartbeats 1000000 in
theorem fall_some (w : World) (b : Nat) (g : Gh) (S : St) (h : Sto w b g S) (hoff : S.off = false) (hS : S.WF) (n : Nat) (hsm : S.Sm n) (hn : n ≤ 1000)
    (hleg : S.Legs) (hne : S.wks ≠ [])
    (ka : Option Addr) (kn kc : Nat) (keep : List Int) (hkp : IRow w g.r ka kc keep) (hkl : keep.length = kn) (hkl2 : kn ≤ 1000000) (t : Int) :
    Calls Try.prog 13 #[.pointer (some ⟨b, 0, .none⟩), .slice ka kn kc, .int .i64 t] w fun e w' =>
      e = .returned (.int .i64 (S.lostN (S.fallL keep))) ∧ ∃ g', Sto w' b g' (S.fallen keep t) ∧ Jk w w' g.r g'.r := by
  have HON := Lib.hid (on_any w b g S h)
  have HWT := Lib.hid (wet_any w b g S h hS n hsm (by omega))
  obtain ⟨D, hD, hmap⟩ := h.wm
  rcases hmap with ⟨hnil, rfl⟩ | ⟨mb, hmb, hown⟩
  · have := hD.size
    exact absurd (List.length_eq_zero_iff.1 this.symm) hne
  have H := Lib.hid h
  have HD := Lib.hid hD
  have HS := Lib.hid hS
  have HSM := Lib.hid hsm
  have HLEG := Lib.hid hleg
  have HKP := Lib.hid hkp
  have HKL := Lib.hid hkl
  have HNE := Lib.hid hne
  have HOW := Lib.hid hown
  have HMB := Lib.hid hmb
  obtain ⟨LN, hLN⟩ : ∃ LN, S.lostN (S.fallL keep) = LN := ⟨_, rfl⟩
  have HLN := Lib.hid hLN
  rw [hLN]
  rw [hoff, Bool.not_false] at HON
  have c3 : w.cell? ⟨b, 3, .none⟩ = some g.wv := cell_of_block h.heap rfl
  have hlt : b < w.heap.size := h.lt
  rw [hmb] at c3
  clear h hD hS hsm hleg hkp hkl hne hown hmb hoff hLN
  go_enter Try.func13, Try.ntmps13
  go_wp2_with fail
  refine HON.out.mono ?_
  rintro e w' ⟨rfl, rfl⟩
  go_wp2_with fail
  refine HWT.out.mono ?_
  rintro e w1 ⟨rfl, hb1⟩
  have d3 : w1.cell? ⟨b, 3, .none⟩ = some (.map (some mb)) := (hb1.cell (p := ⟨b, 3, .none⟩) hlt).trans c3
  have HB1 := Lib.hid hb1
  have HC3 := Lib.hid d3
  clear HON HWT hb1 c3
  go_wp2_with fail
  refine (mkeys_any w1 (some mb)).mono ?_
  rintro e w2 ⟨rfl, hb2, hcm, hsz2⟩
  have HB2 := Lib.hid (HB1.out.trans (hb2.mono HB1.out.size))
  have HSK := Lib.hid (sortedKeys_any w2 w1.heap.size mb S.wks.length D g.pw HD.out (by have := HSM.out.wks; omega) (by omega) hcm (OwnsMap.later HOW.out HB2.out) S.wks (H.out.keysAre HS.out) HNE.out (by have := HSM.out.wks; omega))
  clear hb2 hcm hsz2 d3
  go_wp2_with fail
  refine HSK.out.mono ?_
  rintro e w3 ⟨blk, cap, rfl, hkr, hb3, hblk⟩
  obtain ⟨m, hm⟩ : ∃ m, S.wks.length = m := ⟨_, rfl⟩
  rw [hm]
  have HM := Lib.hid hm
  have HB3 := Lib.hid (HB2.out.trans (hb3.mono HB2.out.size))
  have HBL : Hid (g.r blk = .junk) := Lib.hid (H.out.dom blk (by have := HB2.out.size; omega))
  have HKR := Lib.hid hkr
  have HSZ : Hid (blk < w3.heap.size) := Lib.hid (by
    have hp : 0 < (sortK S.wks).length := by
      have := List.length_pos_iff.2 HNE.out
      simpa [sortK] using this
    have := hkr 0 _ (List.getElem?_eq_getElem hp) 0 (by omega)
    exact World.block_lt_of_cell? w3 _ this)
  clear HSK HC3 hkr hb3 hblk hm hlt
  go_wp2_with fail
  have hml : (sortK S.wks).length = m := by rw [sortK_length]; exact HM.out
  have HML := Lib.hid hml
  have hm1 : m ≤ 1000 := by have := HSM.out.wks; have := HM.out; omega
  have HFL : Hid ((S.fallL keep).length = m) := Lib.hid (by rw [fallL_len]; exact HM.out)
  have HLB := Lib.hid (lostN_bd HSM.out hn keep)
  have HL0 : Hid (S.lostN ((S.fallL keep).take 0) = S.wetN) := Lib.hid (by simp [St.lostN])
  have HJ3 : Hid (Jk w w3 g.r g.r) := Lib.hid (Jk.of_below HB3.out g.r)
  have HDM : Hid (∀ x, w.heap.size ≤ x → g.r x = .junk) := Lib.hid H.out.dom
  clear hml
  go_loopw [7, 24] (fun l i wr => ∃ (j : Nat) (gj : Gh), l = .int .i64 (S.lostN ((S.fallL keep).take j)) ∧ i = .int .i64 j ∧ j ≤ m ∧ Hid (StoL wr b gj (fallS S t ((S.fallL keep).take j)) (wetK gj.pw S.wet ((sortK S.wks).drop j)) ∧ gj.pw = g.pw ∧ gj.wv = g.wv ∧ Jk w3 wr g.r gj.r)) (fun _ i _ => m - (intOf i).toNat)
  case atStart =>
    refine ⟨0, g, by rw [HL0.out], rfl, by omega, Lib.hid ⟨?_, rfl, rfl, Jk.refl _ _⟩⟩
    have h3 := (H.out.later HB3.out).stoL
    exact ⟨h3.role, h3.heap, h3.sm, h3.sr, h3.wm, h3.wr, h3.seen, fun k hk => h3.wet k ((HS.out.wks k).1 (sortK_mem.1 hk)).2, h3.dom⟩
  case round =>
    obtain ⟨j, gj, rfl, rfl, hj, HI⟩ := hrel
    by_cases hjm : j < m
    · obtain ⟨k, hk⟩ : ∃ k, (sortK S.wks)[j]? = some k := ⟨_, List.getElem?_eq_getElem (by have := HML.out; omega)⟩
      have hkm : k ∈ S.wks := sortK_mem.1 (List.mem_of_getElem? hk)
      have hkok := ((HS.out.wks k).1 hkm).2
      have HKJ := Lib.hid hk
      have hkr := HKR.out.jk HI.out.2.2.2 HSZ.out HBL.out j k hk
      have q0 : wr.cell? ⟨blk, j * 4, none⟩ = some (.int .i64 k.a) := hkr 0 (by omega)
      have q1 : wr.cell? ⟨blk, j * 4 + 1, none⟩ = some (.int .i64 k.b) := hkr 1 (by omega)
      have q2 : wr.cell? ⟨blk, j * 4 + 2, none⟩ = some (.int .i64 k.c) := hkr 2 (by omega)
      have q3 : wr.cell? ⟨blk, j * 4 + 3, none⟩ = some (.int .i64 k.d) := hkr 3 (by omega)
      obtain ⟨wq, hwq⟩ : ∃ wq, wr.alloc (.cells #[.int .i64 k.a, .int .i64 k.b, .int .i64 k.c, .int .i64 k.d] 27) = wq := ⟨_, rfl⟩
      have hbq : Below wr.heap.size wr wq := by rw [← hwq]; exact (Below.refl _ _).alloc (Nat.le_refl _) _
      have hKq : KeyAt wq wr.heap.size k := by rw [← hwq]; exact KeyAt.new wr k
      have hszq : wq.heap.size = wr.heap.size + 1 := by rw [← hwq]; simp
      have HKQ := Lib.hid hKq
      have HBQ := Lib.hid hbq
      have HSQ := Lib.hid hszq
      clear hkr hk hkm hbq hKq hszq
      obtain ⟨lj, hlj⟩ : ∃ lj, S.lostN ((S.fallL keep).take j) = lj := ⟨_, rfl⟩
      have hlb := HLB.out j
      rw [hlj] at hlb ⊢
      have HLJ := Lib.hid hlj
      clear hlj
      go_upto_if 32 with (fail)
      clear hwq q0 q1 q2 q3
      obtain ⟨kj, hkj⟩ : ∃ kj, keep.getD j 0 = kj := ⟨_, rfl⟩
      have HKV := Lib.hid hkj
      clear hkj
      go_cut [10] (fun v wx => v = .int .i64 kj ∧ wx = wq)
      case first =>
        by_cases hjk : j < kn
        · have hkp := HKP.out.jk (HJ3.out.trans (HI.out.2.2.2.later HBQ.out))
          have hjl : j < keep.length := by have := HKL.out; omega
          obtain ⟨kb, ko, rfl, hat⟩ := hkp.at (by omega)
          have hget : keep[j]? = some keep[j] := List.getElem?_eq_getElem hjl
          have hv := hat j _ hget
          have hgd : keep.getD j 0 = keep[j] := by simp [List.getD_eq_getElem?_getD, hget]
          rw [← hgd, HKV.out] at hv
          have hcap : kn ≤ kc := by have := hkp.1; have := HKL.out; omega
          clear hkp hat hget hgd hjl
          go_wp2_with fail
          go_meet
          exact ⟨rfl, rfl⟩
        · have hgd : keep.getD j 0 = 0 := by simp [List.getD_eq_getElem?_getD, List.getElem?_eq_none (show keep.length ≤ j by have := HKL.out; omega)]
          rw [HKV.out] at hgd
          subst hgd
          go_wp2_with fail
          go_meet
          exact ⟨rfl, rfl⟩
      case rest =>
        obtain ⟨rfl, rfl⟩ := hcut
        obtain ⟨L, hL⟩ : ∃ L, (sortK S.wks).drop (j + 1) = L := ⟨_, rfl⟩
        have hdr : (sortK S.wks).drop j = k :: L := by
          have hjl : j < (sortK S.wks).length := by have := HML.out; omega
          rw [List.drop_eq_getElem_cons hjl, hL]
          have := HKJ.out
          rw [List.getElem?_eq_getElem hjl] at this
          rw [Option.some.inj this]
        have hkL : k ∉ L := by
          have := (sortK_nodup HS.out.nd.2).sublist (List.drop_sublist j (sortK S.wks))
          rw [hdr] at this
          exact (List.nodup_cons.1 this).1
        obtain ⟨Sj, hSj⟩ : ∃ Sj, fallS S t ((S.fallL keep).take j) = Sj := ⟨_, rfl⟩
        have hQ := HI.out.1.later (wetK_stay _ _ _) HBQ.out
        rw [hdr, hSj] at hQ
        have HFB := Lib.hid (FB.all HS.out HSM.out HLEG.out keep t j)
        rw [hSj] at HFB
        have HSJ := Lib.hid hSj
        have HLL := Lib.hid hL
        obtain ⟨p, hp⟩ : ∃ p, S.wet k = some p := by
          have := ((HS.out.wks k).1 (sortK_mem.1 (List.mem_of_getElem? HKJ.out))).1
          exact Option.isSome_iff_exists.1 this
        obtain ⟨px, dp, dv, hpx, hpa⟩ : ∃ px dp dv, gj.pw k = some px ∧ PaAt wc gj.r k px dp dv p := by
          have := hQ.wet k List.mem_cons_self
          rw [hp] at this
          cases hw : gj.pw k with
          | none => rw [hw] at this; exact this.elim
          | some px => rw [hw] at this; obtain ⟨dp, dv, h⟩ := this; exact ⟨px, dp, dv, rfl, h⟩
        have HP := Lib.hid hp
        have HQ := Lib.hid hQ
        have HNL := Lib.hid hkL
        have HPA := Lib.hid hpa
        have hltb := hQ.lt
        have c3 : wc.cell? ⟨b, 3, .none⟩ = some (.map (some mb)) := by
          have : wc.cell? ⟨b, 3, .none⟩ = some gj.wv := cell_of_block hQ.heap rfl
          rw [this, HI.out.2.2.1, HMB.out]
        have hlk := PMap.look (w := wc.drew) (hQ.wm.keep fun _ _ _ => rfl) Try.underlying62 zero_ptr_pa hkok
        rw [hpx, HI.out.2.2.1, HMB.out] at hlk
        obtain ⟨k0, k1, k2, k3⟩ := HKQ.out.cells
        have HKEP := Lib.hid (kept_any wc.drew gj.r k px dp dv p (hpa.fr (Fr.of_below ((Below.refl _ _).drew) gj.r (fun _ => False)) (fun _ _ h => h) (fun h => h)) kj)
        rw [leftN_eq] at HKEP
        have hq1 : leftN p kj ≤ 1000 := by have := leftN_le p kj; have := HSM.out.row k p hp; omega
        obtain ⟨q, hq⟩ : ∃ q, leftN p kj = q := ⟨_, rfl⟩
        rw [hq] at HKEP hq1
        have HLQ := Lib.hid hq
        unfold kv at hlk
        simp only [ptrV, Option.map] at hlk
        obtain ⟨hlb1, hlb2⟩ := hlb
        clear hp hpx hpa hQ hSj hL hdr hkL hq
        go_upto_region 10 with fail
        go_region
        simp only [Exit.then]
        clear hlk
        go_wp2_with fail
        refine HKEP.out.mono ?_
        rintro e w5 ⟨rfl, rfl⟩
        clear HKEP
        obtain ⟨wD, hwD⟩ : ∃ wD, wc.drew = wD := ⟨_, rfl⟩
        have hbD : Below wc.heap.size wc wD := by rw [← hwD]; exact (Below.refl _ _).drew
        have HBD0 := Lib.hid hbD
        have HK : Hid (KeyAt wD wr.heap.size k) := Lib.hid (HKQ.out.later hbD)
        have hjk : gj.r wr.heap.size = .junk := HI.out.1.dom _ (Nat.le_refl _)
        have hpaD := HPA.out.fr (Fr.of_below hbD gj.r (fun _ => False)) (fun _ _ h => h) (fun h => h)
        have hQD := HQ.out.later (wetK_stay _ _ _) hbD
        obtain ⟨x, hx⟩ : ∃ x, gj.pm k = x := ⟨_, rfl⟩
        obtain ⟨o, ho⟩ : ∃ o, Sj.seen k = o := ⟨_, rfl⟩
        have hod := hQD.seen k hkok
        rw [hx, ho] at hod
        have hbd : ∀ o', o = some o' → o'.bytes.length ≤ 16384 ∧ 0 ≤ o'.named ∧ o'.named ≤ 500000000 := fun o' ho' => HFB.out.seen k o' (ho.trans ho')
        have HBD : Hid (∀ o', o = some o' → o'.bytes.length ≤ 100000 ∧ 0 ≤ o'.named ∧ o'.named ≤ 1099511627776) := Lib.hid (fun o' ho' => by have := hbd o' ho'; omega)
        have HUB : Hid (0 ≤ usedOf o ∧ usedOf o ≤ 1099511627776) := Lib.hid (by
          cases o with
          | none => simp [usedOf]
          | some o' => have := hbd o' rfl; simp only [usedOf]; omega)
        have hlg := HLEG.out k p HP.out hkok
        have HPL := Lib.hid hlg.1
        have HDB : Hid (∀ o', leftO p kj t = some o' → o'.bytes.length ≤ 100000 ∧ 0 ≤ o'.named ∧ o'.named ≤ 1099511627776) := Lib.hid (fun o' ho' => by have := hlg.1.left_bd (M := 500000000) (by have := hlg.1.len; omega) hlg.2 kj t o' ho'; omega)
        have HUS : Hid (-1099511627776 ≤ Sj.used ∧ Sj.used ≤ 1099511627776) := Lib.hid (by
          have hu := HFB.out.used
          omega)
        have HSL : Hid (Sj.sks.length ≤ 1000000) := Lib.hid (by have := HFB.out.len; omega)
        have HX := Lib.hid hx
        have HOE := Lib.hid ho
        have HO := Lib.hid hod
        have HQC := HQ
        clear HQ
        have HQ := Lib.hid hQD
        clear HPA
        have HPA := Lib.hid hpaD
        clear hbD hpaD hQD hx ho hod hbd hlg k0 k1 k2 k3 c3
        go_upto_region 12 with fail
        try rw [hwD]
        clear hwD
-- REG V12
        refine wp_region_ptab (L := fun ph => match ph with | 0 => [cV (.pointer (some ⟨b, 0, .none⟩)), cV (.agg #[.int .i64 k.a, .int .i64 k.b, .int .i64 k.c, .int .i64 k.d]), cV (.pointer (some ⟨px, 0, .none⟩)), cV (.int .i64 kj), cV (.int .i64 t), lfV wD gj.r k (leftO p kj t), cV (.pointer (some ⟨b, 0, .none⟩)), cV (.pointer (some ⟨b, 0, .none⟩)), cV (.pointer (some ⟨b, 2, .none⟩)), cV (gj.sv), cV (.agg #[.int .i64 k.a, .int .i64 k.b, .int .i64 k.c, .int .i64 k.d]), cV (ptrV x), cV (.int .i64 (usedOf o)), tV] | 1 => [cV (.pointer (some ⟨b, 0, .none⟩)), cV (.agg #[.int .i64 k.a, .int .i64 k.b, .int .i64 k.c, .int .i64 k.d]), cV (.pointer (some ⟨px, 0, .none⟩)), cV (.int .i64 kj), cV (.int .i64 t), lfV wD gj.r k (leftO p kj t), cV (.pointer (some ⟨b, 0, .none⟩)), cV (.pointer (some ⟨b, 0, .none⟩)), cV (.pointer (some ⟨b, 2, .none⟩)), cV (gj.sv), cV (.agg #[.int .i64 k.a, .int .i64 k.b, .int .i64 k.c, .int .i64 k.d]), cV (ptrV x), cV (.int .i64 (usedOf o)), tV] | _ => [cV (.pointer (some ⟨b, 0, .none⟩)), cV (.agg #[.int .i64 k.a, .int .i64 k.b, .int .i64 k.c, .int .i64 k.d]), cV (.pointer (some ⟨px, 0, .none⟩)), cV (.int .i64 kj), cV (.int .i64 t), tV, cV (.pointer (some ⟨b, 0, .none⟩)), cV (.pointer (some ⟨b, 0, .none⟩)), cV (.pointer (some ⟨b, 2, .none⟩)), cV (gj.sv), cV (.agg #[.int .i64 k.a, .int .i64 k.b, .int .i64 k.c, .int .i64 k.d]), cV (ptrV x), cV (.int .i64 (usedOf o)), tV]) (jF wD b gj (Sj.laid k (leftO p kj t) (usedOf o)) (wetK gj.pw S.wet L) k) [5, 13] [(0, 1), (0, 1), (0, 0), (0, 0), (0, 0), (0, 1), (0, 1), (0, 1), (0, 1), (0, 1), (0, 1), (0, 1), (0, 1), (1, 2)] [[(0, none)], [(9, none)], [(11, none)], [(10, none)], [(2, none)], [(50, some 2), (51, some 3), (52, some 4)], [(0, none)], [(54, some 6)], [(55, some 7)], [(56, some 8)], [(9, none)], [(57, some 9), (58, some 10)], [(59, some 11)], [(48, some 0), (49, some 1), (53, some 5), (60, some 12)]] 14 2 73 (by kernel_rfl) rfl rfl rfl (by kernel_rfl) (by kernel_rfl) (by decide) (by kernel_rfl) ?_ ?_ ?_ ?_ ?_
        · exact fun ph w1 w2 h hb => jF_st (wetK_stay _ _ _) ph h hb
        · exact Below.refl _ _
        · show ∀ i, i < 14 → _
          iterate 14 (refine fls ?_ ?_)
          · exact fl0
          · intro hne lo hi ph hran hp1 hp2 a w1 hJ hsz hs      -- 0: slot 48
            obtain ⟨rfl, rfl⟩ : 0 = lo ∧ 1 = hi := Prod.mk.inj (Option.some.inj hran)
            rcases (by omega : ph = 0 ∨ ph = 1) with rfl | rfl
            · obtain ⟨h0, _⟩ := hs
              have h0 : a.tmps.getD 0 undef = .pointer (some ⟨b, 0, .none⟩) := h0
              refine op_run rfl rfl (v := .pointer (some ⟨b, 0, .none⟩)) (w' := w1) ?_ rfl (Below.refl _ _)
              simp [execOp, Act.eval, h0, go_sem]
            · obtain ⟨h0, _⟩ := hs
              have h0 : a.tmps.getD 0 undef = .pointer (some ⟨b, 0, .none⟩) := h0
              refine op_run rfl rfl (v := .pointer (some ⟨b, 0, .none⟩)) (w' := w1) ?_ rfl (Below.refl _ _)
              simp [execOp, Act.eval, h0, go_sem]
          · intro hne lo hi ph hran hp1 hp2 a w1 hJ hsz hs      -- 1: slot 49
            obtain ⟨rfl, rfl⟩ : 0 = lo ∧ 1 = hi := Prod.mk.inj (Option.some.inj hran)
            rcases (by omega : ph = 0 ∨ ph = 1) with rfl | rfl
            · obtain ⟨h0, _⟩ := hs
              have h0 : a.tmps.getD 9 undef = .pointer (some ⟨wr.heap.size, 0, .none⟩) := h0
              obtain ⟨rz, hrz⟩ := jF_fr 0 (by decide) hJ
              obtain ⟨c, c', c'', c'''⟩ := KeyAt.cells (HK.out.fr hrz hjk (ofOb_junk _ _))
              refine op_run rfl rfl (v := .agg #[.int .i64 k.a, .int .i64 k.b, .int .i64 k.c, .int .i64 k.d]) (w' := w1) ?_ rfl (Below.refl _ _)
              simp [execOp, Act.eval, h0, c, c', c'', c''', go_sem]
            · obtain ⟨h0, _⟩ := hs
              have h0 : a.tmps.getD 9 undef = .pointer (some ⟨wr.heap.size, 0, .none⟩) := h0
              obtain ⟨rz, hrz⟩ := jF_fr 1 (by decide) hJ
              obtain ⟨c, c', c'', c'''⟩ := KeyAt.cells (HK.out.fr hrz hjk (ofOb_junk _ _))
              refine op_run rfl rfl (v := .agg #[.int .i64 k.a, .int .i64 k.b, .int .i64 k.c, .int .i64 k.d]) (w' := w1) ?_ rfl (Below.refl _ _)
              simp [execOp, Act.eval, h0, c, c', c'', c''', go_sem]
          · intro hne lo hi ph hran hp1 hp2 a w1 hJ hsz hs      -- 2: slot 50
            obtain ⟨rfl, rfl⟩ : 0 = lo ∧ 0 = hi := Prod.mk.inj (Option.some.inj hran)
            obtain rfl : ph = 0 := by omega
            obtain ⟨h0, _⟩ := hs
            have h0 : a.tmps.getD 11 undef = .pointer (some ⟨px, 0, .none⟩) := h0
            refine op_run rfl rfl (v := .pointer (some ⟨px, 0, .none⟩)) (w' := w1) ?_ rfl (Below.refl _ _)
            simp [execOp, Act.eval, h0, go_sem]
          · intro hne lo hi ph hran hp1 hp2 a w1 hJ hsz hs      -- 3: slot 51
            obtain ⟨rfl, rfl⟩ : 0 = lo ∧ 0 = hi := Prod.mk.inj (Option.some.inj hran)
            obtain rfl : ph = 0 := by omega
            obtain ⟨h0, _⟩ := hs
            have h0 : a.tmps.getD 10 undef = .int .i64 kj := h0
            refine op_run rfl rfl (v := .int .i64 kj) (w' := w1) ?_ rfl (Below.refl _ _)
            simp [execOp, Act.eval, h0, go_sem]
          · intro hne lo hi ph hran hp1 hp2 a w1 hJ hsz hs      -- 4: slot 52
            obtain ⟨rfl, rfl⟩ : 0 = lo ∧ 0 = hi := Prod.mk.inj (Option.some.inj hran)
            obtain rfl : ph = 0 := by omega
            obtain ⟨h0, _⟩ := hs
            have h0 : a.tmps.getD 2 undef = .int .i64 t := h0
            refine op_run rfl rfl (v := .int .i64 t) (w' := w1) ?_ rfl (Below.refl _ _)
            simp [execOp, Act.eval, h0, go_sem]
          · intro hne lo hi ph hran hp1 hp2 a w1 hJ hsz hs      -- 5: slot 53
            exact absurd (by decide) hne
          · intro hne lo hi ph hran hp1 hp2 a w1 hJ hsz hs      -- 6: slot 54
            obtain ⟨rfl, rfl⟩ : 0 = lo ∧ 1 = hi := Prod.mk.inj (Option.some.inj hran)
            rcases (by omega : ph = 0 ∨ ph = 1) with rfl | rfl
            · obtain ⟨h0, _⟩ := hs
              have h0 : a.tmps.getD 0 undef = .pointer (some ⟨b, 0, .none⟩) := h0
              refine op_run rfl rfl (v := .pointer (some ⟨b, 0, .none⟩)) (w' := w1) ?_ rfl (Below.refl _ _)
              simp [execOp, Act.eval, h0, go_sem]
            · obtain ⟨h0, _⟩ := hs
              have h0 : a.tmps.getD 0 undef = .pointer (some ⟨b, 0, .none⟩) := h0
              refine op_run rfl rfl (v := .pointer (some ⟨b, 0, .none⟩)) (w' := w1) ?_ rfl (Below.refl _ _)
              simp [execOp, Act.eval, h0, go_sem]
          · intro hne lo hi ph hran hp1 hp2 a w1 hJ hsz hs      -- 7: slot 55
            obtain ⟨rfl, rfl⟩ : 0 = lo ∧ 1 = hi := Prod.mk.inj (Option.some.inj hran)
            rcases (by omega : ph = 0 ∨ ph = 1) with rfl | rfl
            · obtain ⟨h0, _⟩ := hs
              have h0 : a.tmps.getD 54 undef = .pointer (some ⟨b, 0, .none⟩) := h0
              refine op_run rfl rfl (v := .pointer (some ⟨b, 0, .none⟩)) (w' := w1) ?_ rfl (Below.refl _ _)
              simp [execOp, Act.eval, h0, go_sem]
            · obtain ⟨h0, _⟩ := hs
              have h0 : a.tmps.getD 54 undef = .pointer (some ⟨b, 0, .none⟩) := h0
              refine op_run rfl rfl (v := .pointer (some ⟨b, 0, .none⟩)) (w' := w1) ?_ rfl (Below.refl _ _)
              simp [execOp, Act.eval, h0, go_sem]
          · intro hne lo hi ph hran hp1 hp2 a w1 hJ hsz hs      -- 8: slot 56
            obtain ⟨rfl, rfl⟩ : 0 = lo ∧ 1 = hi := Prod.mk.inj (Option.some.inj hran)
            rcases (by omega : ph = 0 ∨ ph = 1) with rfl | rfl
            · obtain ⟨h0, _⟩ := hs
              have h0 : a.tmps.getD 55 undef = .pointer (some ⟨b, 0, .none⟩) := h0
              refine op_run rfl rfl (v := .pointer (some ⟨b, 2, .none⟩)) (w' := w1) ?_ rfl (Below.refl _ _)
              simp [execOp, Act.eval, h0, go_sem]
            · obtain ⟨h0, _⟩ := hs
              have h0 : a.tmps.getD 55 undef = .pointer (some ⟨b, 0, .none⟩) := h0
              refine op_run rfl rfl (v := .pointer (some ⟨b, 2, .none⟩)) (w' := w1) ?_ rfl (Below.refl _ _)
              simp [execOp, Act.eval, h0, go_sem]
          · intro hne lo hi ph hran hp1 hp2 a w1 hJ hsz hs      -- 9: slot 57
            obtain ⟨rfl, rfl⟩ : 0 = lo ∧ 1 = hi := Prod.mk.inj (Option.some.inj hran)
            rcases (by omega : ph = 0 ∨ ph = 1) with rfl | rfl
            · obtain ⟨h0, _⟩ := hs
              have h0 : a.tmps.getD 56 undef = .pointer (some ⟨b, 2, .none⟩) := h0
              obtain ⟨rz, hrz⟩ := jF_fr 0 (by decide) hJ
              have c : w1.cell? ⟨b, 2, .none⟩ = some gj.sv := cell_of_block (x := b) ((hrz.block b HQ.out.lt (by rw [HQ.out.role]; rintro (h | h | h) <;> cases h)).trans HQ.out.heap) rfl
              refine op_run rfl rfl (v := gj.sv) (w' := w1) ?_ rfl (Below.refl _ _)
              simp [execOp, Act.eval, h0, c, go_sem]
            · obtain ⟨h0, _⟩ := hs
              have h0 : a.tmps.getD 56 undef = .pointer (some ⟨b, 2, .none⟩) := h0
              obtain ⟨rz, hrz⟩ := jF_fr 1 (by decide) hJ
              have c : w1.cell? ⟨b, 2, .none⟩ = some gj.sv := cell_of_block (x := b) ((hrz.block b HQ.out.lt (by rw [HQ.out.role]; rintro (h | h | h) <;> cases h)).trans HQ.out.heap) rfl
              refine op_run rfl rfl (v := gj.sv) (w' := w1) ?_ rfl (Below.refl _ _)
              simp [execOp, Act.eval, h0, c, go_sem]
          · intro hne lo hi ph hran hp1 hp2 a w1 hJ hsz hs      -- 10: slot 58
            obtain ⟨rfl, rfl⟩ : 0 = lo ∧ 1 = hi := Prod.mk.inj (Option.some.inj hran)
            rcases (by omega : ph = 0 ∨ ph = 1) with rfl | rfl
            · obtain ⟨h0, _⟩ := hs
              have h0 : a.tmps.getD 9 undef = .pointer (some ⟨wr.heap.size, 0, .none⟩) := h0
              obtain ⟨rz, hrz⟩ := jF_fr 0 (by decide) hJ
              obtain ⟨c, c', c'', c'''⟩ := KeyAt.cells (HK.out.fr hrz hjk (ofOb_junk _ _))
              refine op_run rfl rfl (v := .agg #[.int .i64 k.a, .int .i64 k.b, .int .i64 k.c, .int .i64 k.d]) (w' := w1) ?_ rfl (Below.refl _ _)
              simp [execOp, Act.eval, h0, c, c', c'', c''', go_sem]
            · obtain ⟨h0, _⟩ := hs
              have h0 : a.tmps.getD 9 undef = .pointer (some ⟨wr.heap.size, 0, .none⟩) := h0
              obtain ⟨rz, hrz⟩ := jF_fr 1 (by decide) hJ
              obtain ⟨c, c', c'', c'''⟩ := KeyAt.cells (HK.out.fr hrz hjk (ofOb_junk _ _))
              refine op_run rfl rfl (v := .agg #[.int .i64 k.a, .int .i64 k.b, .int .i64 k.c, .int .i64 k.d]) (w' := w1) ?_ rfl (Below.refl _ _)
              simp [execOp, Act.eval, h0, c, c', c'', c''', go_sem]
          · intro hne lo hi ph hran hp1 hp2 a w1 hJ hsz hs      -- 11: slot 59
            obtain ⟨rfl, rfl⟩ : 0 = lo ∧ 1 = hi := Prod.mk.inj (Option.some.inj hran)
            rcases (by omega : ph = 0 ∨ ph = 1) with rfl | rfl
            · obtain ⟨h0, h1, _⟩ := hs
              have h0 : a.tmps.getD 57 undef = gj.sv := h0
              have h1 : a.tmps.getD 58 undef = .agg #[.int .i64 k.a, .int .i64 k.b, .int .i64 k.c, .int .i64 k.d] := h1
              obtain ⟨rz, hrz⟩ := jF_fr 0 (by decide) hJ
              have c := PMap.look (w := w1) (jF_sm HQ.out hrz) Try.underlying61 zero_ptr_ob hkok
              unfold kv at c
              rw [HX.out] at c
              refine op_run rfl rfl (v := ptrV x) (w' := w1) ?_ rfl (Below.refl _ _)
              simp [execOp, Act.eval, h0, h1, c, go_sem]
            · obtain ⟨h0, h1, _⟩ := hs
              have h0 : a.tmps.getD 57 undef = gj.sv := h0
              have h1 : a.tmps.getD 58 undef = .agg #[.int .i64 k.a, .int .i64 k.b, .int .i64 k.c, .int .i64 k.d] := h1
              obtain ⟨rz, hrz⟩ := jF_fr 1 (by decide) hJ
              have c := PMap.look (w := w1) (jF_sm HQ.out hrz) Try.underlying61 zero_ptr_ob hkok
              unfold kv at c
              rw [HX.out] at c
              refine op_run rfl rfl (v := ptrV x) (w' := w1) ?_ rfl (Below.refl _ _)
              simp [execOp, Act.eval, h0, h1, c, go_sem]
          · intro hne lo hi ph hran hp1 hp2 a w1 hJ hsz hs      -- 12: slot 60
            obtain ⟨rfl, rfl⟩ : 0 = lo ∧ 1 = hi := Prod.mk.inj (Option.some.inj hran)
            rcases (by omega : ph = 0 ∨ ph = 1) with rfl | rfl
            · obtain ⟨h0, _⟩ := hs
              have h0 : a.tmps.getD 59 undef = ptrV x := h0
              obtain ⟨rz, hrz⟩ := jF_fr 0 (by decide) hJ
              
              refine op_call rfl rfl (f := 44) (args := #[ptrV x]) (by simp [execOp, Act.eval, resolve, h0, go_sem]) ?_
              exact (used_any w1 rz false k x o (HO.out.fr hrz (by rintro t (rfl | rfl | rfl) <;> rintro (h | h | h) <;> cases h) (ofOb_junk _ _)) HBD.out).mono (fun e w' ⟨h1, h2⟩ => ⟨_, h1, rfl, h2⟩)
            · obtain ⟨h0, _⟩ := hs
              have h0 : a.tmps.getD 59 undef = ptrV x := h0
              obtain ⟨rz, hrz⟩ := jF_fr 1 (by decide) hJ
              
              refine op_call rfl rfl (f := 44) (args := #[ptrV x]) (by simp [execOp, Act.eval, resolve, h0, go_sem]) ?_
              exact (used_any w1 rz false k x o (HO.out.fr hrz (by rintro t (rfl | rfl | rfl) <;> rintro (h | h | h) <;> cases h) (ofOb_junk _ _)) HBD.out).mono (fun e w' ⟨h1, h2⟩ => ⟨_, h1, rfl, h2⟩)
          · intro hne lo hi ph hran hp1 hp2 a w1 hJ hsz hs      -- 13: slot 61
            exact absurd (by decide) hne
        · show ∀ ph, ph < 2 → _
          iterate 2 (refine fls ?_ ?_)
          · exact fl0
          · intro i hi a w1 hJ hsz hs      -- heavy 0: op 5 slot 53
            obtain rfl : 5 = i := Option.some.inj hi
            obtain ⟨h0, h1, h2, _⟩ := hs
            have h0 : a.tmps.getD 50 undef = .pointer (some ⟨px, 0, .none⟩) := h0
            have h1 : a.tmps.getD 51 undef = .int .i64 kj := h1
            have h2 : a.tmps.getD 52 undef = .int .i64 t := h2
            have hcalm : ∀ (wq1 wq2 : World) (kk : Nat) (v0 : Value), kk ≠ 5 → VL [cV (.pointer (some ⟨b, 0, .none⟩)), cV (.agg #[.int .i64 k.a, .int .i64 k.b, .int .i64 k.c, .int .i64 k.d]), cV (.pointer (some ⟨px, 0, .none⟩)), cV (.int .i64 kj), cV (.int .i64 t), lfV wD gj.r k (leftO p kj t), cV (.pointer (some ⟨b, 0, .none⟩)), cV (.pointer (some ⟨b, 0, .none⟩)), cV (.pointer (some ⟨b, 2, .none⟩)), cV (gj.sv), cV (.agg #[.int .i64 k.a, .int .i64 k.b, .int .i64 k.c, .int .i64 k.d]), cV (ptrV x), cV (.int .i64 (usedOf o)), tV] kk wq1 v0 → VL [cV (.pointer (some ⟨b, 0, .none⟩)), cV (.agg #[.int .i64 k.a, .int .i64 k.b, .int .i64 k.c, .int .i64 k.d]), cV (.pointer (some ⟨px, 0, .none⟩)), cV (.int .i64 kj), cV (.int .i64 t), lfV wD gj.r k (leftO p kj t), cV (.pointer (some ⟨b, 0, .none⟩)), cV (.pointer (some ⟨b, 0, .none⟩)), cV (.pointer (some ⟨b, 2, .none⟩)), cV (gj.sv), cV (.agg #[.int .i64 k.a, .int .i64 k.b, .int .i64 k.c, .int .i64 k.d]), cV (ptrV x), cV (.int .i64 (usedOf o)), tV] kk wq2 v0 := Calm.all (n := 0) ⟨.inl ⟨_, rfl, rfl⟩, .inl ⟨_, rfl, rfl⟩, .inl ⟨_, rfl, rfl⟩, .inl ⟨_, rfl, rfl⟩, .inl ⟨_, rfl, rfl⟩, .inr (.inr rfl), .inl ⟨_, rfl, rfl⟩, .inl ⟨_, rfl, rfl⟩, .inl ⟨_, rfl, rfl⟩, .inl ⟨_, rfl, rfl⟩, .inl ⟨_, rfl, rfl⟩, .inl ⟨_, rfl, rfl⟩, .inl ⟨_, rfl, rfl⟩, .inr (.inl rfl), trivial⟩
            refine hv_call rfl rfl (f := 43) (args := #[.pointer (some ⟨px, 0, .none⟩), .int .i64 kj, .int .i64 t]) (by simp [execOp, Act.eval, resolve, h0, h1, h2, go_sem]) ?_
            refine (pleft_any w1 gj.r k px dp dv p (HPA.out.fr (Fr.of_below hJ gj.r (fun _ => False)) (fun _ _ h => h) (fun h => h)) (HQ.out.dom.later (Below.size hJ)) kj t HPL.out).mono ?_
            rintro e w' ⟨x', r', rfl, hf, hd, ho⟩
            exact ⟨_, rfl, ⟨x', rfl, r', (Fr.of_below hJ gj.r _).trans hf, hd, ho⟩, ⟨r', (Fr.of_below hJ gj.r _).trans hf⟩, hcalm _ _⟩
          · intro i hi a w1 hJ hsz hs      -- heavy 1: op 13 slot 61
            obtain rfl : 13 = i := Option.some.inj hi
            obtain ⟨h0, h1, h2, h3, _⟩ := hs
            have h0 : a.tmps.getD 48 undef = .pointer (some ⟨b, 0, .none⟩) := h0
            have h1 : a.tmps.getD 49 undef = .agg #[.int .i64 k.a, .int .i64 k.b, .int .i64 k.c, .int .i64 k.d] := h1
            obtain ⟨y2, h2, r2, f2, dm2, o2⟩ := h2
            have h3 : a.tmps.getD 60 undef = .int .i64 (usedOf o) := h3
            have hcalm : ∀ (wq1 wq2 : World) (kk : Nat) (v0 : Value), kk ≠ 13 → VL [cV (.pointer (some ⟨b, 0, .none⟩)), cV (.agg #[.int .i64 k.a, .int .i64 k.b, .int .i64 k.c, .int .i64 k.d]), cV (.pointer (some ⟨px, 0, .none⟩)), cV (.int .i64 kj), cV (.int .i64 t), lfV wD gj.r k (leftO p kj t), cV (.pointer (some ⟨b, 0, .none⟩)), cV (.pointer (some ⟨b, 0, .none⟩)), cV (.pointer (some ⟨b, 2, .none⟩)), cV (gj.sv), cV (.agg #[.int .i64 k.a, .int .i64 k.b, .int .i64 k.c, .int .i64 k.d]), cV (ptrV x), cV (.int .i64 (usedOf o)), tV] kk wq1 v0 → VL [cV (.pointer (some ⟨b, 0, .none⟩)), cV (.agg #[.int .i64 k.a, .int .i64 k.b, .int .i64 k.c, .int .i64 k.d]), cV (.pointer (some ⟨px, 0, .none⟩)), cV (.int .i64 kj), cV (.int .i64 t), tV, cV (.pointer (some ⟨b, 0, .none⟩)), cV (.pointer (some ⟨b, 0, .none⟩)), cV (.pointer (some ⟨b, 2, .none⟩)), cV (gj.sv), cV (.agg #[.int .i64 k.a, .int .i64 k.b, .int .i64 k.c, .int .i64 k.d]), cV (ptrV x), cV (.int .i64 (usedOf o)), tV] kk wq2 v0 := Calm.all (n := 0) ⟨.inl ⟨_, rfl, rfl⟩, .inl ⟨_, rfl, rfl⟩, .inl ⟨_, rfl, rfl⟩, .inl ⟨_, rfl, rfl⟩, .inl ⟨_, rfl, rfl⟩, .inr (.inl rfl), .inl ⟨_, rfl, rfl⟩, .inl ⟨_, rfl, rfl⟩, .inl ⟨_, rfl, rfl⟩, .inl ⟨_, rfl, rfl⟩, .inl ⟨_, rfl, rfl⟩, .inl ⟨_, rfl, rfl⟩, .inl ⟨_, rfl, rfl⟩, .inr (.inr rfl), trivial⟩
            refine hv_call rfl rfl (f := 42) (args := #[.pointer (some ⟨b, 0, .none⟩), .agg #[.int .i64 k.a, .int .i64 k.b, .int .i64 k.c, .int .i64 k.d], ptrV y2, .int .i64 (usedOf o)]) (by simp [execOp, Act.eval, resolve, h0, h1, h2, h3, go_sem]) ?_
            refine (lay_any w1 b ⟨fun z => reK k (r2 z), gj.sv, gj.wv, gj.pm, gj.pw⟩ Sj k hkok _ (wetK_stay _ _ _) (HQ.out.holeK hkok HNL.out f2 dm2) y2 (leftO p kj t) o2.seenK (usedOf o) ⟨HFB.out.nd, by rw [HFB.out.mem k]; simp [hkok]⟩ HDB.out HUB.out HUS.out HSL.out).mono ?_
            rintro e w' ⟨rfl, g', a1, a2, a3, a4⟩
            exact ⟨_, rfl, trivial, ⟨g', a1, a2, a3, ((Jk.of_fr f2 (ofOb_free _ _)).map (reK k) rfl rfl).trans (Jk.of_fr a4 ⟨(by rintro (h | h) <;> cases h), (by rintro (h | h) <;> cases h)⟩)⟩, hcalm _ _⟩
        · intro f w1 hJ hv
          try simp only [Exit.then]
          simp only [putAll, List.foldl_cons, List.foldl_nil, Option.getD_some, Act.put, List.setIfInBounds_toArray, List.set_cons_succ, List.set_cons_zero]
          clear hv
          obtain ⟨g3, h3, hpw3, hwv3, hjk3⟩ := hJ
          have HE : Hid (fallS S t ((S.fallL keep).take (j + 1)) = Sj.laid k (leftO p kj t) (usedOf o)) := Lib.hid (by
            rw [take_snoc (fallL_get S keep j HKJ.out), fallS_snoc, HSJ.out, HKV.out, HOE.out]
            simp only [St.leftOf, HP.out])
          have HE2 : Hid (S.lostN ((S.fallL keep).take (j + 1)) = lj - q) := Lib.hid (by
            rw [take_snoc (fallL_get S keep j HKJ.out), lostN_snoc, HLJ.out, HKV.out]
            simp only [St.leftNo, HP.out, HLQ.out])
          have HI3 : Hid (StoL w1 b g3 (fallS S t ((S.fallL keep).take (j + 1))) (wetK g3.pw S.wet ((sortK S.wks).drop (j + 1))) ∧ g3.pw = g.pw ∧ g3.wv = g.wv ∧ Jk w3 w1 g.r g3.r) := Lib.hid ⟨by rw [HE.out, HLL.out, hpw3]; exact h3, hpw3.trans HI.out.2.1, hwv3.trans HI.out.2.2.1, (HI.out.2.2.2.later (HBQ.out.trans (HBD0.out.mono HBQ.out.size))).trans hjk3⟩
          clear h3 hpw3 hwv3 hjk3
          go_wp2_with fail
          go_roundw
          case rel => exact ⟨j + 1, g3, by rw [HE2.out], by go_num, by omega, HI3⟩
          case measure => simp [intOf]; omega
-- END V12
    · obtain rfl : j = m := by omega
      have ht : (S.fallL keep).take j = S.fallL keep := List.take_of_length_le (by have := HFL.out; omega)
      have HE := HI.out
      rw [ht] at HE
      obtain ⟨hL, hpw, hwv, hjk⟩ := HE
      have c3 : wr.cell? ⟨b, 3, .none⟩ = some gj.wv := cell_of_block hL.heap rfl
      have c6 : wr.cell? ⟨b, 6, .none⟩ = some (.pointer .none) := cell_of_block hL.heap rfl
      have c1 : wr.cell? ⟨b, 1, .none⟩ = some (.bool (fallS S t (S.fallL keep)).off) := cell_of_block hL.heap rfl
      have f3 : wr.frozen? ⟨b, 3, .none⟩ = false := frozen_of_block hL.heap 3
      have f6 : wr.frozen? ⟨b, 6, .none⟩ = false := frozen_of_block hL.heap 6
      have f1 : wr.frozen? ⟨b, 1, .none⟩ = false := frozen_of_block hL.heap 1
      have HF := Lib.hid hL.fallen
      have HJK := Lib.hid (HJ3.out.trans hjk)
      have hln : S.lostN ((S.fallL keep).take j) = LN := by rw [ht]; exact HLN.out
      rw [hln]
      clear hL hpw hwv hjk ht hln HI
      go_wp2_with fail
      go_ret
      exact ⟨rfl, _, HF.out.1, HJK.out.trans HF.out.2⟩
end Go.Proofs.Ytgjdabneodkmpaa
