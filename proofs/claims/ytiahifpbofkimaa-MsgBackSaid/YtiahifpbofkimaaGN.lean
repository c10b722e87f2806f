/- Messages: their lists stay where one block alone is written. | Messages: what bytes are: the program's guess of their lists. -/
import Derived.Test.YtiahifpbofkimaaMsA
import Derived.Test.YtiahifpbofkimaaGL
import Derived.Test.YtiahifpbofkimaaGM
import Derived.Test.YtiahifpbofkimaaGJ
import Derived.Test.YtiahifpbofkimaaGG
import Derived.Lib.ConvBytes
namespace Go.Proofs.Ytiahifpbofkimaa
open Go.RowKit Go.Proofs
set_option linter.unusedVariables false
set_option linter.unusedSimpArgs false
set_option linter.unnecessarySimpa false

/-- Only block P is written. -/
def OnlyP (P : Nat) (w w' : World) : Prop := ∀ y, y ≠ P → w'.heap[y]? = w.heap[y]?
theorem OnlyP.set (w : World) (P i : Nat) (v : Value) : OnlyP P w (w.setCell ⟨P, i, none⟩ v) := fun y hy => setCell_heap_other w hy i v
theorem TRow.only {w w' : World} {a : Option Addr} {cap P : Nat} {ts : List Tg} (h : TRow w a cap ts) (ho : OnlyP P w w') (hx : ∀ x, a = some x → x.block ≠ P) : TRow w' a cap ts := by
  refine ⟨h.1, h.2.1, h.2.2.1, h.2.2.2.1, fun x hx2 i t ht => ?_⟩
  obtain ⟨s, c0, c1, c2, c3⟩ := h.2.2.2.2 x hx2 i t ht
  have hk := ho x.block (hx x hx2)
  exact ⟨s, by rw [cell_block (x := ⟨x.block, x.off + i * 4, none⟩) hk]; exact c0, by rw [cell_block (x := ⟨x.block, x.off + i * 4 + 1, none⟩) hk]; exact c1, by rw [cell_block (x := ⟨x.block, x.off + i * 4 + 2, none⟩) hk]; exact c2, by rw [cell_block (x := ⟨x.block, x.off + i * 4 + 3, none⟩) hk]; exact c3⟩
theorem GRow.only {α : Type} {R : RT α} {w w' : World} {a : Option Addr} {cap P : Nat} {ts : List α} (h : GRow R w a cap ts) (ho : OnlyP P w w') (hx : ∀ x, a = some x → x.block ≠ P) : GRow R w' a cap ts := by
  refine ⟨h.1, h.2.1, h.2.2.1, h.2.2.2.1, fun x hx2 i t ht => ?_⟩
  obtain ⟨s, c⟩ := h.2.2.2.2 x hx2 i t ht
  have hk := ho x.block (hx x hx2)
  exact ⟨s, fun k v hv => by rw [cell_block (x := ⟨x.block, x.off + i * R.sz + k, none⟩) hk]; exact c k v hv⟩
/-- A record has no byte. -/
def NoB8 (cs : Array Value) : Prop := ∀ (j : Nat) (u : UInt8), cs[j]? ≠ some (B8 u)
theorem Row.only {w w' : World} {a : Option Addr} {cap P : Nat} {l : List UInt8} {cs : Array Value} {t : TypeId} (h : Row w a cap l) (ho : OnlyP P w w') (hr : RecAt w P cs t) (hn : NoB8 cs) : Row w' a cap l := by
  refine ⟨h.1, h.2.1, h.2.2.1, fun x hx i u hu => ?_⟩
  have c := h.2.2.2 x hx i u hu
  have e : (x.add i).block = x.block := by unfold Addr.add; split <;> rfl
  have hne : x.block ≠ P := fun hp => by
    have hs := World.cell?_spot c
    rw [← hp] at hr
    unfold RecAt at hr
    unfold World.cell? at c
    rw [e, hr, hs] at c
    exact hn _ u (by simpa using c)
  rw [← c]
  exact cell_block (by rw [e]; exact ho _ hne)
theorem ERow.only {w w' : World} {a : Option Addr} {cap P : Nat} {es : List En} {cs : Array Value} {t : TypeId} (h : ERow w a cap es) (ho : OnlyP P w w') (hx : ∀ x, a = some x → x.block ≠ P) (hr : RecAt w P cs t) (hn : NoB8 cs) : ERow w' a cap es := by
  refine ⟨h.1, h.2.1, h.2.2.1, fun x hx2 i e he => ?_⟩
  obtain ⟨s, ai, ci, c0, c1, c2, h4⟩ := h.2.2.2 x hx2 i e he
  have hk := ho x.block (hx x hx2)
  exact ⟨s, ai, ci, by rw [cell_block (x := ⟨x.block, x.off + i * 3, none⟩) hk]; exact c0, by rw [cell_block (x := ⟨x.block, x.off + i * 3 + 1, none⟩) hk]; exact c1, by rw [cell_block (x := ⟨x.block, x.off + i * 3 + 2, none⟩) hk]; exact c2, h4.only ho hr hn⟩
/-- A message's lists lie beyond B. -/
def MsFar (B : Nat) (p : MsAt) : Prop := ∀ x, p.ac = some x ∨ p.ae = some x ∨ p.am = some x → B ≤ x.block
theorem MsFar.weak {A B : Nat} {p : MsAt} (h : MsFar B p) (hab : A ≤ B) : MsFar A p := fun x hx => Nat.le_trans hab (h x hx)
theorem MsRows.only {w w' : World} {m : Ms} {p : MsAt} {P B : Nat} {cs : Array Value} {t : TypeId} (h : MsRows w m p) (hf : MsFar B p) (hP : P < B) (ho : OnlyP P w w') (hr : RecAt w P cs t) (hn : NoB8 cs) : MsRows w' m p :=
  ⟨h.c.only ho fun x hx => by have := hf x (.inl hx); omega, h.e.only ho (fun x hx => by have := hf x (.inr (.inl hx)); omega) hr hn, h.t.only ho fun x hx => by have := hf x (.inr (.inr hx)); omega, h.d.only ho hr hn, h.hc, h.he, h.ht, h.hd⟩
theorem noB8_ms (k a b c d e : Int) (a1 a2 a3 a4 : Option Addr) (n1 n2 n3 n4 c1 c2 c3 c4 : Nat) : NoB8 #[.int .i64 k, .int .i64 a, .int .i64 b, .int .i64 c, .int .i64 d, .int .i64 e, .slice a1 n1 c1, .slice a2 n2 c2, .slice a3 n3 c3, .slice a4 n4 c4] := by
  intro j u h
  match j with
  | 0 => simp [B8] at h
  | 1 => simp [B8] at h
  | 2 => simp [B8] at h
  | 3 => simp [B8] at h
  | 4 => simp [B8] at h
  | 5 => simp [B8] at h
  | 6 => simp [B8] at h
  | 7 => simp [B8] at h
  | 8 => simp [B8] at h
  | 9 => simp [B8] at h
  | j + 10 => simp at h
/-- Where what one made itself lies. -/
theorem TOwn.row_far {W0 w : World} {v : Value} {ts : List Tg} {n : Nat} (h : TOwn W0 w v ts) (hn : ts.length = n) : ∃ a cap, v = .slice a n cap ∧ TRow w a cap ts ∧ ∀ x, a = some x → W0.heap.size ≤ x.block := by
  subst hn
  obtain ⟨a, cap, hv, hr⟩ := h.row
  refine ⟨a, cap, hv, hr, fun x hx => ?_⟩
  rcases h.1.2 with ⟨hv2, hn⟩ | ⟨g, cap2, cur, hv2, hb, _⟩
  · rw [hv] at hv2; simp only [Value.slice.injEq] at hv2; rw [hv2.1] at hx; cases hx
  · rw [hv] at hv2; simp only [Value.slice.injEq] at hv2; rw [hv2.1] at hx; cases hx; exact hb
theorem GOwn.row_far {α : Type} {R : RT α} (hR : R.Ok) {W0 w : World} {v : Value} {ts : List α} {n : Nat} (h : GOwn R W0 w v ts) (hn : ts.length = n) : ∃ a cap, v = .slice a n cap ∧ GRow R w a cap ts ∧ ∀ x, a = some x → W0.heap.size ≤ x.block := by
  subst hn
  obtain ⟨a, cap, hv, hr⟩ := h.row hR
  refine ⟨a, cap, hv, hr, fun x hx => ?_⟩
  rcases h.1.2 with ⟨hv2, hn⟩ | ⟨g, cap2, cur, hv2, hb, _⟩
  · rw [hv] at hv2; simp only [Value.slice.injEq] at hv2; rw [hv2.1] at hx; cases hx
  · rw [hv] at hv2; simp only [Value.slice.injEq] at hv2; rw [hv2.1] at hx; cases hx; exact hb
theorem EOwn.row_far {W0 w : World} {v : Value} {es : List En} {n : Nat} (h : EOwn W0 w v es) (hn : es.length = n) : ∃ a cap, v = .slice a n cap ∧ ERow w a cap es ∧ ∀ x, a = some x → W0.heap.size ≤ x.block := by
  subst hn
  obtain ⟨a, cap, hv, hr⟩ := h.row
  refine ⟨a, cap, hv, hr, fun x hx => ?_⟩
  obtain ⟨cs, h1, _⟩ := h
  rcases h1.2 with ⟨hv2, hn⟩ | ⟨g, cap2, cur, hv2, hb, _⟩
  · rw [hv] at hv2; simp only [Value.slice.injEq] at hv2; rw [hv2.1] at hx; cases hx
  · rw [hv] at hv2; simp only [Value.slice.injEq] at hv2; rw [hv2.1] at hx; cases hx; exact hb
end Go.Proofs.Ytiahifpbofkimaa
namespace Go.Proofs.Ytiahifpbofkimaa
open Go.RowKit Go.Proofs
set_option linter.unusedVariables false
set_option linter.unusedSimpArgs false
set_option linter.unnecessarySimpa false

/-! ### '[]byte(s)' of a text that is no constant -/
theorem conv_text (W : World) (s : ByteArray) : (convert 9 25 (.string s)).run Try.prog W = .ok (.slice (some ⟨W.heap.size, 0, none⟩) s.size (grownCap W s.size 0 5)) (Lib.bytesWorld W 5 s) :=
  Lib.run_convert_string_bytes W _ _ _ s Try.underlying9 Try.underlying25 Try.underlying5
theorem text_below (W : World) (e : TypeId) (s : ByteArray) : Below W.heap.size W (Lib.bytesWorld W e s) where
  os := rfl
  tape := rfl
  output := rfl
  size := by rw [Lib.bytesWorld_size]; omega
  block := fun k hk => Lib.bytesWorld_at_old W e s k hk
theorem text_row (W : World) (e : TypeId) (s : ByteArray) (hs : s.size ≤ maxLen) : Row (Lib.bytesWorld W e s) (some ⟨W.heap.size, 0, none⟩) (grownCap W s.size 0 e) s.data.toList := by
  refine ⟨by rw [← Lib.size_eq]; exact grownCap_ge _ _ _ _, grownCap_le_maxLen _ _ _ _ hs, fun h => (by cases h), fun x hx i u hu => ?_⟩
  cases hx
  have hi := (List.getElem?_eq_some_iff.1 hu).1
  rw [← Lib.size_eq] at hi
  have e0 : (⟨W.heap.size, 0, none⟩ : Addr).add i = ⟨W.heap.size, i, none⟩ := by unfold Addr.add; split <;> simp_all
  rw [e0, Lib.bytesWorld_cell W e s i hi]
  unfold B8
  rw [List.getD_eq_getElem?_getD, hu]
  rfl

/-! ### the chain -/
theorem gtA_put {l : List UInt8} {p : Nat} {t x : List UInt8} {most : Int} (hp : p ≤ l.length) (h : l.drop p = textL t ++ x) (ht : (t.length : Int) ≤ most) (hl : l.length ≤ 100000) : gtA l ((p : Nat) : Int) most = some (t, p + (textL t).length) := by
  have hlt : t.length ≤ l.length := by
    have := congrArg List.length h
    unfold textL at this
    simp only [List.length_append, List.length_drop] at this
    omega
  have e7 : l.drop p = varL t.length ++ (t ++ x) := by rw [h]; unfold textL; rw [List.append_assoc]
  unfold gtA
  rw [gvA_nat (by omega), e7, getV_varL (by omega)]
  simp only [Int.toNat_natCast]
  rw [if_pos (by
    have := congrArg List.length e7
    simp only [List.length_append, List.length_drop] at this
    omega)]
  rw [← List.drop_drop, e7, List.drop_left, List.take_left]
  congr 2
  unfold textL
  rw [List.length_append]
  omega
def GChainP (l : List UInt8) (p : Nat) (w : World) (e : Ending) (w' : World) : Prop :=
  ∃ v ts q, e = .returned (.tuple #[v, .int .i64 (q : Nat)]) ∧ TOwn w w' v ts ∧ q ≤ l.length ∧ ∀ c x, ChOk c → l.drop p = textL (putC c) ++ x → ts = c ∧ q = p + (textL (putC c)).length
set_option maxRecDepth 20000 in
set_option maxHeartbeats 6400000 in
theorem guessChain_any (ad : Option Addr) (n c : Nat) (l : List UInt8) (p : Nat) (w : World) (hr : Row w ad c l) (hn : l.length = n) (hlen : n ≤ 100000) (hp : p ≤ n) :
    Calls Try.prog 68 #[.slice ad n c, .int .i64 (p : Nat)] w (GChainP l p w) := by
  obtain ⟨s, qe, zt, hgt, hqe, hss, hgs⟩ := gotT_any l ((p : Nat) : Int) (n : Int) (by omega)
  have HGT := Lib.hid (gettext_any ad n c l ((p : Nat) : Int) (n : Int) w hr hn hlen (by omega) (by omega))
  rw [hgt] at HGT
  have HB := Lib.hid (text_below w 5 s)
  have hrow := text_row w 5 s (by unfold maxLen; omega)
  have hcv := fun W => conv_text W s
  have HK := Lib.hid (chget_any _ s.size _ _ _ hrow (Lib.size_eq s).symm (by omega))
  have HG : Hid (∀ c x, ChOk c → l.drop p = textL (putC c) ++ x → (getCh s.data.toList).1 = c ∧ qe = p + (textL (putC c)).length) := Lib.hid (fun c x hc hl => by
    have h2 : ((putC c).length : Int) ≤ (n : Int) := by
      have := congrArg List.length hl
      unfold textL at this
      simp only [List.length_append, List.length_drop] at this
      omega
    obtain ⟨e1, e2, _⟩ := hgs _ _ (gtA_put (by omega) hl h2 (by omega))
    rw [e1, getCh_some hc rfl]
    exact ⟨rfl, e2⟩)
  have HQ : Hid (qe ≤ l.length) := Lib.hid hqe
  clear hr hn hgt hgs hrow hqe
  go_enter Try.func68, Try.ntmps68
  go_wp2_with (first
    | (go_at_call 86; refine HGT.out.mono ?_; rintro e w1 ⟨rfl, rfl⟩)
    | (go_at_call 87; refine HK.out.mono ?_; rintro e w2 ⟨v2, rfl, o2⟩))
  go_ret2
  exact ⟨_, _, qe, rfl, o2.back HB.out, HQ.out, HG.out⟩

/-! ### entries -/
def GEntsP (l : List UInt8) (p : Nat) (w : World) (e : Ending) (w' : World) : Prop :=
  ∃ v es, e = .returned v ∧ EOwn w w' v es ∧ es.length ≤ 4 ∧ ∀ d x, d.length ≤ 4 → (∀ t ∈ d, t.right = true) → l.drop p = entsL d ++ x → es = d
def endE (d : List En) (j : Nat) : Nat := (varL d.length).length + (rowL (d.take j)).length
theorem endE_drop {l : List UInt8} {p : Nat} {d : List En} {x : List UInt8} (h : l.drop p = entsL d ++ x) (j : Nat) : l.drop (p + endE d j) = rowL (d.drop j) ++ x := by
  have e : entsL d = (varL d.length ++ rowL (d.take j)) ++ rowL (d.drop j) := by
    unfold entsL rowL
    rw [List.append_assoc, ← List.flatMap_append, List.take_append_drop]
  rw [← List.drop_drop, h, e, List.append_assoc]
  unfold endE
  rw [← List.length_append, List.drop_left]
theorem endE_succ {d : List En} {j : Nat} {t : En} (ht : d[j]? = some t) : endE d (j + 1) = endE d j + (layL t).length := by
  unfold endE; rw [rowL_snoc d j t ht, List.length_append]; omega
theorem take_step {l : List UInt8} {a : Nat} (ha : a ≤ l.length) : ∃ (e1 : En) (a1 : Nat) (k1 : Int), takeA l ((a : Nat) : Int) = (e1, ((a1 : Nat) : Int), k1) ∧ a1 ≤ l.length ∧ ∀ t x, t.right = true → l.drop a = layL t ++ x → e1 = t ∧ a1 = a + (layL t).length := by
  rcases takeM_two (l.drop a) with ⟨c, h1, hc⟩ | ⟨e, h1, h2, h3⟩
  · refine ⟨noE, 0, c, takeA_err ha h1 hc, Nat.zero_le _, fun t x ht hl => ?_⟩
    rw [hl, take_lay ht x] at h1
    simp only [Prod.mk.injEq] at h1
    exact absurd h1.2.2.symm hc
  · refine ⟨e, a + (e.data.length + 22), 0, takeA_ok ha h1, by rw [List.length_drop] at h3; omega, fun t x ht hl => ?_⟩
    rw [hl, take_lay ht x] at h1
    simp only [Prod.mk.injEq] at h1
    obtain ⟨rfl, _, _⟩ := h1
    exact ⟨rfl, by rw [layL_len]⟩
theorem first_ents {l : List UInt8} {p : Nat} {d : List En} {x : List UInt8} {o : Int} {q : Int} {z : Bool} (hp : p ≤ l.length) (hl : l.drop p = entsL d ++ x) (h4 : d.length ≤ 4) (hg : getVA l ((p : Nat) : Int) = (o, q, z)) : o = d.length ∧ q = ((p + endE d 0 : Nat) : Int) ∧ z = true := by
  have e : l.drop p = varL d.length ++ (rowL d ++ x) := by rw [hl]; unfold entsL; rw [List.append_assoc]
  obtain ⟨h1, h2, h3⟩ := getVA_put hg hp e (by omega)
  exact ⟨h1, by rw [h2]; unfold endE; simp [rowL], h3⟩
set_option maxRecDepth 20000 in
set_option maxHeartbeats 12800000 in
theorem guessEntries_any (ad : Option Addr) (n c : Nat) (l : List UInt8) (p : Nat) (w : World) (hr : Row w ad c l) (hn : l.length = n) (hlen : n ≤ 100000) (hp : p ≤ n) :
    Calls Try.prog 69 #[.slice ad n c, .int .i64 (p : Nat)] w (GEntsP l p w) := by
  have HR := Lib.hid hr
  have HN := Lib.hid hn
  obtain ⟨o, q, z, hg⟩ : ∃ o q z, getVA l ((p : Nat) : Int) = (o, q, z) := ⟨_, _, _, rfl⟩
  obtain ⟨a0, rfl, ha0⟩ := getVA_place hg (Int.natCast_nonneg _)
  have HK := Lib.hid (getvar_any ad n c l ((p : Nat) : Int) w hr hn hlen (by omega) (by omega))
  rw [hg] at HK
  simp only [Got3] at HK
  obtain ⟨N, hN⟩ : ∃ N : Nat, o = N := ⟨o.toNat, by have := (getVA_nat hg).1; omega⟩
  subst hN
  have HF : Hid (∀ d x, d.length ≤ 4 → l.drop p = entsL d ++ x → N = d.length ∧ a0 = p + endE d 0) := Lib.hid (fun d x h4 hl => by
    obtain ⟨h1, h2, _⟩ := first_ents (by omega) hl h4 hg
    exact ⟨by omega, by omega⟩)
  have HA0 : Hid (a0 ≤ l.length) := Lib.hid ha0
  have hN64 := (getVA_nat hg).2
  clear hr hn hg ha0
  by_cases h4 : 4 < N
  · have HE : Hid (∀ d x, d.length ≤ 4 → (∀ t ∈ d, t.right = true) → l.drop p = entsL d ++ x → ([] : List En) = d) := Lib.hid (fun d x h _ hl => by have := (HF.out d x h hl).1; omega)
    have hd : decide (4 < (N : Int)) = true := by simp; omega
    clear h4
    go_enter Try.func69, Try.ntmps69
    go_wp2_with (go_at_call 67; refine HK.out.mono ?_; rintro e w1 ⟨rfl, rfl⟩)
    go_ret
    exact ⟨_, [], rfl, EOwn.nil w, by simp, HE.out⟩
  · have hd : decide (4 < (N : Int)) = false := by simp; omega
    have hN4 : N ≤ 4 := by omega
    clear h4
    go_enter Try.func69, Try.ntmps69
    go_wp2_with (go_at_call 67; refine HK.out.mono ?_; rintro e w1 ⟨rfl, rfl⟩)
    go_loopw [1, 7, 8, 19] (fun at' v _ i wr => ∃ (j a : Nat) (es : List En), i = .int .i64 (j : Nat) ∧ at' = .int .i64 (a : Nat) ∧ j ≤ N ∧ Hid (a ≤ l.length) ∧ Hid (es.length = j) ∧ Hid (EOwn w wr v es) ∧ Hid (∀ d x, d.length ≤ 4 → (∀ t ∈ d, t.right = true) → l.drop p = entsL d ++ x → es = d.take j ∧ a = p + endE d j)) (fun _ _ _ i _ => N - (intOf i).toNat)
    case atStart => exact ⟨0, a0, [], rfl, rfl, by omega, HA0, Lib.hid rfl, Lib.hid (EOwn.nil w), Lib.hid (fun d x h4 _ hl => ⟨rfl, (HF.out d x h4 hl).2⟩)⟩
    case round =>
      obtain ⟨j, a, es, rfl, rfl, hj, hA, hL, hO, hU⟩ := hrel
      by_cases hjN : (j : Int) < N
      · have HX8 := Lib.hid (RecAt.new wr #[.int .i64 0, .int .i64 0, .slice none 0 0] 44)
        have HB8 := Lib.hid ((Below.refl wr.heap.size wr).alloc (Nat.le_refl _) (.cells #[.int .i64 0, .int .i64 0, .slice none 0 0] 44))
        have HS8 : Hid ((wr.alloc (.cells #[.int .i64 0, .int .i64 0, .slice none 0 0] 44)).heap.size = wr.heap.size + 1) := Lib.hid (by simp)
        obtain ⟨wo, hwo⟩ : ∃ W, W = wr := ⟨_, rfl⟩
        subst hwo
        go_upto_region 8 with fail
        generalize (wo.alloc (.cells #[.int .i64 0, .int .i64 0, .slice none 0 0] 44)) = w2 at *
        obtain ⟨P8, hP8⟩ : ∃ P, wo.heap.size = P := ⟨_, rfl⟩
        have HP8 := Lib.hid hP8
        rw [hP8]
        rw [hP8] at HX8 HS8
        clear hP8
        obtain ⟨e1, a1, k1, hT, ha1, hT2⟩ := take_step hA.out
        have HK2 := Lib.hid (take_any ad n c l ((a : Nat) : Int) w2 (HR.out.later (hO.out.below.trans (HB8.out.mono hO.out.below.size))) HN.out hlen (by omega) (by have := hA.out; have := HN.out; omega))
        rw [hT] at HK2
        have HA1 : Hid (a1 ≤ l.length) := Lib.hid ha1
        have HU2 : Hid (∀ d x, d.length ≤ 4 → (∀ t ∈ d, t.right = true) → l.drop p = entsL d ++ x → es ++ [e1] = d.take (j + 1) ∧ a1 = p + endE d (j + 1)) := Lib.hid (fun d x h4 hrt hl => by
          obtain ⟨u1, u2⟩ := hU.out d x h4 hrt hl
          have hjd : j < d.length := by have := (HF.out d x h4 hl).1; omega
          have ht : d[j]? = some d[j] := List.getElem?_eq_getElem hjd
          have e2 : l.drop a = layL d[j] ++ (rowL (d.drop (j + 1)) ++ x) := by
            rw [u2, endE_drop hl j, List.drop_eq_getElem_cons hjd]
            unfold rowL
            rw [List.flatMap_cons, List.append_assoc]
          obtain ⟨v1, v2⟩ := hT2 _ _ (hrt _ (List.getElem_mem hjd)) e2
          refine ⟨?_, by rw [v2, endE_succ ht, u2]; omega⟩
          rw [List.take_succ_eq_append_getElem hjd, u1, v1])
        have HL2 : Hid ((es ++ [e1]).length = j + 1) := Lib.hid (by rw [List.length_append, hL.out]; rfl)
        clear hT hT2 ha1
        obtain ⟨T, Z, D⟩ := e1
        obtain ⟨L, hLL⟩ : ∃ L, D.length = L := ⟨_, rfl⟩
        have HLL := Lib.hid hLL
        clear hLL
        go_wp2_with (first
          | (go_at_call 88; refine HK2.out.mono ?_; rintro e w3 ⟨d1, c1, rfl, R3, hb3, hx3⟩; unfold entV; simp only [HLL.out]; have HR3 := Lib.hid R3; have HB3 := Lib.hid (HB8.out.trans (hb3.mono HB8.out.size)); have HX3 := Lib.hid (HX8.out.later hb3); have HD3 := Lib.hid hx3; clear R3 hb3 hx3)
          | (refine wpList_rec rfl rfl P8 #[.int .i64 0, .int .i64 0, .slice none 0 0] #[.int .i64 T, .int .i64 Z, .slice d1 L c1] rfl rfl HX3.out rfl (by kernel_rfl) (by kernel_rfl) ?_; intro w4 r1 r2 r3 r4; have HX4 := Lib.hid r1; have HSZ := Lib.hid r2; have HR4 := Lib.hid (HR3.out.kept r4 (fun y hy => ⟨(HD3.out y hy).2, fun e => by have := (HD3.out y hy).1; have := HS8.out; cases e; omega⟩)); have HB4 := Lib.hid (HB3.out.grown r4 HB3.out.size (fun q e => by cases e; exact Nat.le_of_eq HP8.out)); clear r1 r2 r3 r4; obtain ⟨x0, x1, x2⟩ := HX4.out.c3; have HO4 := Lib.hid (hO.out.later HB4.out); have HAD : Hid (∀ y, d1 = some y → y.block < w4.heap.size ∧ u7.ownBlock ≠ some y.block) := Lib.hid (fun y hy => ⟨by have := (HD3.out y hy).2; rw [HSZ.out]; exact this, fun he => by have h1 := (hO.out.lt he).2; have h2 := (HD3.out y hy).1; have := HP8.out; have := HS8.out; omega⟩))
          | (at_builtin; refine wp_ent rfl _ _ rfl u7 es rfl w HO4.out ⟨T, Z, D⟩ d1 L c1 HLL.out HR4.out HAD.out rfl (by have := hL.out; omega) ?_; intro v9 w9 o9; have HO9 := Lib.hid o9; clear o9))
        go_roundw
        case rel => exact ⟨j + 1, a1, _, by go_num, rfl, by omega, HA1, HL2, HO9, HU2⟩
        case measure => simp [intOf]; omega
      · have : j = N := by omega
        subst this
        have HE : Hid (∀ d x, d.length ≤ 4 → (∀ t ∈ d, t.right = true) → l.drop p = entsL d ++ x → es = d) := Lib.hid (fun d x h4 hrt hl => by
          have h1 := (HF.out d x h4 hl).1
          rw [(hU.out d x h4 hrt hl).1, h1, List.take_length])
        go_wp2_with fail
        go_ret
        exact ⟨_, es, rfl, hO.out, by rw [hL.out]; omega, HE.out⟩

/-! ### marks -/
def GMarksP (l : List UInt8) (p : Nat) (w : World) (e : Ending) (w' : World) : Prop :=
  ∃ v us, e = .returned v ∧ MOwn w w' v us ∧ us.length ≤ 17 ∧ ∀ d, MkAt l p d → us = d
theorem read3_zeroM {l : List UInt8} {p : Nat} (h : p ≤ l.length) : Read3 l p 0 p [0, 0, 0] := ⟨fun x hx => by simp at hx; omega, rfl, rfl, h⟩
set_option maxRecDepth 100000 in
set_option maxHeartbeats 12800000 in
theorem guessMarks_any (ad : Option Addr) (n c : Nat) (l : List UInt8) (p0 : Nat) (w : World) (hr : Row w ad c l) (hn : l.length = n) (hlen : n ≤ 100000) (hp : p0 ≤ n) :
    Calls Try.prog 70 #[.slice ad n c, .int .i64 (p0 : Nat)] w (GMarksP l p0 w) := by
  have HR := Lib.hid hr
  have HN := Lib.hid hn
  obtain ⟨o, q, z, hg⟩ : ∃ o q z, getVA l ((p0 : Nat) : Int) = (o, q, z) := ⟨_, _, _, rfl⟩
  obtain ⟨a0, rfl, ha0⟩ := getVA_place hg (Int.natCast_nonneg _)
  have HK := Lib.hid (getvar_any ad n c l ((p0 : Nat) : Int) w hr hn hlen (by omega) (by omega))
  rw [hg] at HK
  simp only [Got3] at HK
  obtain ⟨N, hN⟩ : ∃ N : Nat, o = N := ⟨o.toNat, by have := (getVA_nat hg).1; omega⟩
  subst hN
  have HF : Hid (∀ d, MkAt l p0 d → N = d.length ∧ a0 = p0 + endN d 0) := Lib.hid (fun d hd => by
    obtain ⟨h1, h2, _⟩ := hd.first (by omega) hg
    exact ⟨by omega, by omega⟩)
  have HA0 : Hid (a0 ≤ l.length) := Lib.hid ha0
  have hN64 := (getVA_nat hg).2
  clear hr hn hg ha0
  by_cases h4 : 17 < N
  · have HE : Hid (∀ d, MkAt l p0 d → ([] : List Mk) = d) := Lib.hid (fun d hd => by have := (HF.out d hd).1; have := hd.2.1; omega)
    have hd : decide (17 < (N : Int)) = true := by simp; omega
    clear h4
    go_enter Try.func70, Try.ntmps70
    go_wp2_with (go_at_call 67; refine HK.out.mono ?_; rintro e w1 ⟨rfl, rfl⟩)
    go_ret
    exact ⟨_, [], rfl, GOwn.nil _ w, by simp, HE.out⟩
  · have hd : decide (17 < (N : Int)) = false := by simp; omega
    have hN17 : N ≤ 17 := by omega
    clear h4
    go_enter Try.func70, Try.ntmps70
    go_wp2_with (go_at_call 67; refine HK.out.mono ?_; rintro e w1 ⟨rfl, rfl⟩)
    go_loopw [1, 7, 8, 9, 11, 22] (fun at' v _ _ _ i wr => ∃ (j a : Nat) (us : List Mk), i = .int .i64 (j : Nat) ∧ at' = .int .i64 (a : Nat) ∧ j ≤ N ∧ Hid (a ≤ l.length) ∧ Hid (us.length = j) ∧ Hid (MOwn w wr v us) ∧ Hid (∀ d, MkAt l p0 d → us = d.take j ∧ a = p0 + endN d j)) (fun _ _ _ _ _ i _ => N - (intOf i).toNat)
    case atStart => exact ⟨0, a0, [], rfl, rfl, by omega, HA0, Lib.hid rfl, Lib.hid (GOwn.nil _ w), Lib.hid (fun d hd => ⟨rfl, (HF.out d hd).2⟩)⟩
    case round =>
      obtain ⟨j, p, us, rfl, rfl, hj, hp, hul, hO, hU⟩ := hrel
      obtain ⟨wo, hwo⟩ : ∃ W, W = wr := ⟨_, rfl⟩
      subst hwo
      by_cases hjn : (j : Int) < N
      · obtain ⟨X8, X9, B9⟩ := two_recsM wo #[.int .i64 0, .string ⟨#[]⟩, .int .i64 0, .bool false] #[.int .i64 0] 46 3
        have HX8 := Lib.hid X8
        have HX9 := Lib.hid X9
        have HB9 := Lib.hid B9
        clear X8 X9 B9
        go_upto_region 9 with fail
        generalize ((wo.alloc (.cells #[.int .i64 0, .string ⟨#[]⟩, .int .i64 0, .bool false] 46)).alloc (.cells #[.int .i64 0] 3)) = w9 at *
        obtain ⟨P9, hP9⟩ : ∃ P, wo.heap.size + 1 = P := ⟨_, rfl⟩
        have HP9 := Lib.hid hP9
        rw [hP9] at HX9 ⊢
        clear hP9
        obtain ⟨P8, hP8⟩ : ∃ P, wo.heap.size = P := ⟨_, rfl⟩
        have HP8 := Lib.hid hP8
        rw [hP8]
        rw [hP8] at HX8 HP9
        clear hP8
        go_wp2_with fail
        go_loopw [1, 11, 27] (fun at' _ i wq => ∃ (k q : Nat) (xs : List Int), i = .int .i64 (k : Nat) ∧ at' = .int .i64 (q : Nat) ∧ k ≤ 3 ∧ Hid (LayM wq P8 P9 xs) ∧ Hid (Read3 l p k q xs) ∧ Hid (Below wo.heap.size wo wq)) (fun _ _ i _ => 3 - (intOf i).toNat)
        case atStart => exact ⟨0, p, _, rfl, rfl, by omega, Lib.hid ⟨0, 0, 0, rfl, HX8.out, HX9.out⟩, Lib.hid (read3_zeroM hp.out), HB9⟩
        case round =>
          clear HX8 HX9 HB9
          obtain ⟨k, q, xs, rfl, rfl, hk, hL, hD, hB⟩ := hrel
          have HBW := Lib.hid (hO.out.below.trans (hB.out.mono hO.out.below.size))
          by_cases hk3 : (k : Int) < 3
          · obtain ⟨X, K, v, hX, hpl, hcl, hfr, hst⟩ := hL.out.at (by have := HP9.out; omega) (show k < 3 by omega)
            have hix : ∀ W, (Instr.index 112 (.agg #[.pointer (some ⟨P8, 0, none⟩), .pointer (some ⟨P8, 2, none⟩), .pointer (some ⟨P9, 0, none⟩)]) (.int .i64 (k : Nat))).run Try.prog W = .ok (.pointer (some ⟨X, K, none⟩)) W := fun W => run_ixp3 W _ _ _ k _ hpl
            obtain ⟨o, q', z, hg⟩ : ∃ o q' z, getVA l ((q : Nat) : Int) = (o, q', z) := ⟨_, _, _, rfl⟩
            obtain ⟨a2, rfl, ha2⟩ := getVA_place hg (Int.natCast_nonneg _)
            have HK := Lib.hid (getvar_any ad n c l ((q : Nat) : Int) wr (HR.out.later HBW.out) HN.out hlen (by omega) (by have := hD.out.2.2.2; have := HN.out; omega))
            rw [hg] at HK
            simp only [Got3] at HK
            have HD2 := Lib.hid (hD.out.step (show k < 3 by omega) hg)
            have HL2 := Lib.hid (hst o)
            have HB2 := Lib.hid (hB.out.setCell (p := ⟨X, K, none⟩) (by have := HP8.out; have := HP9.out; simp only; rcases hX with rfl | rfl <;> omega) (.int .i64 o))
            clear hst hpl hX hg ha2 hL hD hB
            go_wp2_with fail
            refine HK.out.mono ?_
            rintro e w5 ⟨rfl, rfl⟩
            go_wp2_with fail
            go_roundw
            case rel => exact ⟨k + 1, a2, _, by go_num, rfl, by omega, HL2, HD2, HB2⟩
            case measure => simp [intOf]; omega
          · have : k = 3 := by omega
            subst this
            obtain ⟨x7, x8, x9, rfl, hx8, hx9⟩ := hL.out
            have HXS := Lib.hid hx8
            have h7 := hD.out.1 x7 (by simp)
            have h8 := hD.out.1 x8 (by simp)
            obtain ⟨s, qe, zt, hgt, hqe, hss, hgs⟩ := gotT_any l ((q : Nat) : Int) 13 (by have := HN.out; omega)
            have HGT := Lib.hid (fun W (h : Below w.heap.size w W) => gettext_any ad n c l ((q : Nat) : Int) 13 W (HR.out.later h) HN.out hlen (by omega) (by have := hD.out.2.2.2; have := HN.out; omega))
            rw [hgt] at HGT
            have HQE : Hid (qe ≤ l.length) := Lib.hid hqe
            have HTB : Hid (Mk.B ⟨x7, s, x8, decide (0 < x9)⟩) := Lib.hid (by unfold Mk.B W64; simp only; omega)
            have HU2 : Hid (∀ d, MkAt l p0 d → us ++ [⟨x7, s, x8, decide (0 < x9)⟩] = d.take (j + 1) ∧ qe = p0 + endN d (j + 1)) := Lib.hid (fun d hd => by
              obtain ⟨u1, u2⟩ := hU.out d hd
              have hjl : j < d.length := by have := (HF.out d hd).1; omega
              have ht : d[j]? = some d[j] := List.getElem?_eq_getElem hjl
              obtain ⟨o1, o2, o3, a1, a2, z1, z2, z3, hxs, g1, g2, g3⟩ := varsN_three hD.out.2.2.1
              simp only [List.take_succ_cons, List.take_zero, List.cons.injEq, and_true] at hxs
              obtain ⟨rfl, rfl, rfl⟩ := hxs
              obtain ⟨r1, r2, r3, _, _, _, r7⟩ := hd.step (by have := HN.out; omega) ht u2 g1 g2 g3
              obtain ⟨s1, s2, _⟩ := hgs _ _ (r7 13 (by decide))
              refine ⟨?_, s2⟩
              rw [List.take_succ_eq_append_getElem hjl, u1]
              generalize d[j] = t at *
              obtain ⟨t1, t2, t3, t4⟩ := t
              simp only at r1 r2 r3 s1
              rw [r1, r2, r3, bit_pos, show s = t2 from bytes_ext s1])
            have HUL : Hid ((us ++ [(⟨x7, s, x8, decide (0 < x9)⟩ : Mk)]).length = j + 1) := Lib.hid (by rw [List.length_append, hul.out]; rfl)
            have t9 := hx9.c1
            obtain ⟨y0, y1, y2, y3⟩ := hx8.c4
            obtain ⟨f0, f1, f2, f3⟩ := hx8.f4
            clear hgt hqe hss hgs hx8 h7 h8 HBW
            go_upto_region 15 with fail
            have HB10 := Lib.hid (hB.out.setCell (p := ⟨P8, 3, none⟩) (Nat.le_of_eq HP8.out) (.bool (decide (0 < x9))))
            have HX10 := Lib.hid (HXS.out.set 3 (.bool (decide (0 < x9))))
            clear t9 y0 y1 y2 y3 f0 f1 f2 f3 hx9 hB
            generalize (wr.setCell ⟨P8, 3, none⟩ (.bool (decide (0 < x9)))) = w10 at *
            simp only [List.setIfInBounds_toArray, List.set_cons_zero, List.set_cons_succ] at HX10
            have HBW := Lib.hid (hO.out.below.trans (HB10.out.mono hO.out.below.size))
            obtain ⟨y0, y1, y2, y3⟩ := HX10.out.c4
            obtain ⟨f0, f1, f2, f3⟩ := HX10.out.f4
            go_upto_region 16 with (go_at_call 86; refine (HGT.out _ HBW.out).mono ?_; rintro e w11 ⟨rfl, rfl⟩)
            have HB11 := Lib.hid (HB10.out.setCell (p := ⟨P8, 1, none⟩) (Nat.le_of_eq HP8.out) (.string s))
            have HX11 := Lib.hid (HX10.out.set 1 (.string s))
            clear y0 y1 y2 y3 f0 f1 f2 f3 HB10 HX10 HBW
            generalize (w10.setCell ⟨P8, 1, none⟩ (.string s)) = w11 at *
            simp only [List.setIfInBounds_toArray, List.set_cons_zero, List.set_cons_succ] at HX11
            have HO11 := Lib.hid (hO.out.later HB11.out)
            generalize decide (0 < x9) = b9 at *
            obtain ⟨y0, y1, y2, y3⟩ := HX11.out.c4
            go_wp2_with (at_builtin; refine wp_gone mkOk rfl _ _ rfl rfl _ _ rfl w HO11.out ⟨x7, s, x8, b9⟩ HTB.out rfl rfl (by rw [hul.out]; omega) ?_; intro v12 w12 o12 g12 h12; have HO12 := Lib.hid o12; clear o12 g12 h12)
            go_roundw
            case rel => exact ⟨j + 1, qe, _, by go_num, rfl, by omega, HQE, HUL, HO12, HU2⟩
            case measure => simp [intOf]; omega
      · have : j = N := by omega
        subst this
        have HE : Hid (∀ d, MkAt l p0 d → us = d) := Lib.hid (fun d hd => by rw [(hU.out d hd).1, (HF.out d hd).1, List.take_length])
        go_wp2_with fail
        go_ret
        exact ⟨_, us, rfl, hO.out, by rw [hul.out]; exact hN17, HE.out⟩
end Go.Proofs.Ytiahifpbofkimaa
