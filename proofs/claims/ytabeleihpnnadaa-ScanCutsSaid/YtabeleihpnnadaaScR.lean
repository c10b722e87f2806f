/- Scans: entries dealt to rows, as the laws make them. -/
import Derived.Test.YtabeleihpnnadaaSOwn
import Derived.Test.YtabeleihpnnadaaSlB
namespace Go.Proofs.Ytabeleihpnnadaa
open Go.RowKit Go.Proofs
set_option linter.unusedVariables false
set_option linter.unusedSimpArgs false
set_option linter.unnecessarySimpa false

/-- What is laid of p. -/
def normP (p : List UInt8) : List UInt8 := (if p = [] then [0] else p).take 40
theorem normP_len (p : List UInt8) : 1 ≤ (normP p).length ∧ (normP p).length ≤ 40 := by
  unfold normP
  split
  · decide
  · rename_i h
    have : p.length ≠ 0 := fun c => h (List.length_eq_zero_iff.1 c)
    rw [List.length_take]; omega
theorem normP_nil : normP [] = [0] := by decide
theorem normP_some {p : List UInt8} (h : p.length ≠ 0) : normP p = p.take (min p.length 40) := by
  unfold normP
  rw [if_neg (fun c => h (by rw [c]; rfl))]
  apply List.take_eq_take_iff.2
  omega
def ensF : Nat → List (List UInt8) → List En
  | _, [] => []
  | f, p :: ps => ⟨3, f, normP p⟩ :: ensF (f + 1) ps
theorem ensF_len : ∀ (f : Nat) (ps : List (List UInt8)), (ensF f ps).length = ps.length
  | _, [] => rfl
  | f, p :: ps => by rw [ensF, List.length_cons, ensF_len, List.length_cons]
theorem ensF_get : ∀ {f : Nat} {ps : List (List UInt8)} {i : Nat} {p : List UInt8}, ps[i]? = some p → (ensF f ps)[i]? = some ⟨3, ((f + i : Nat) : Int), normP p⟩
  | f, [], i, p, h => by simp at h
  | f, q :: ps, 0, p, h => by simp at h; subst h; simp [ensF]
  | f, q :: ps, i + 1, p, h => by
    rw [ensF, List.getElem?_cons_succ, ensF_get (f := f + 1) (by simpa using h)]
    rw [show f + 1 + i = f + (i + 1) by omega]
theorem ensF_right {f : Nat} {ps : List (List UInt8)} (h1 : 1 ≤ f) (h2 : f + ps.length ≤ 1000000) : ∀ e ∈ ensF f ps, e.right = true := fun e he => by
  obtain ⟨i, hi⟩ := List.mem_iff_getElem?.1 he
  have hlt := (List.getElem?_eq_some_iff.1 hi).1
  rw [ensF_len] at hlt
  rw [ensF_get (List.getElem?_eq_getElem hlt)] at hi
  cases hi
  have := normP_len ps[i]
  exact rightE_iff.2 (by simp only; omega)
/-- The rows. -/
def rowsP (sp : Nat) (es : List En) : List (List UInt8) := (dealt sp es).map rowL
theorem rowsP_len (sp : Nat) (es : List En) : (rowsP sp es).length = sp := by simp [rowsP, dealt]
theorem rowsP_get {sp : Nat} {es : List En} {k : Nat} (h : k < sp) : (rowsP sp es)[k]? = some (rowL (dealE (sp : Int) es (k : Int))) := by
  unfold rowsP dealt
  rw [List.getElem?_map, List.getElem?_map, List.getElem?_range h]; rfl
theorem rowsP_nil (sp : Nat) : rowsP sp [] = List.replicate sp [] := by
  apply List.ext_getElem?
  intro k
  by_cases hk : k < sp
  · rw [rowsP_get hk, List.getElem?_replicate, if_pos hk]; rfl
  · rw [List.getElem?_eq_none (by rw [rowsP_len]; omega), List.getElem?_eq_none (by simp; omega)]
theorem rowL_app (a b : List En) : rowL (a ++ b) = rowL a ++ rowL b := by unfold rowL; rw [List.flatMap_append]
theorem rowL_one (e : En) : rowL [e] = layL e := by simp [rowL]
theorem dealE_app (sp : Int) (a b : List En) (k : Int) : dealE sp (a ++ b) k = dealE sp a k ++ dealE sp b k := by unfold dealE; rw [List.filter_append]
theorem rowsP_snoc {sp : Nat} {es : List En} {e : En} {k : Nat} (hk : e.seq % (sp : Int) = k) (hsp : k < sp) : rowsP sp (es ++ [e]) = (rowsP sp es).set k (rowL (dealE (sp : Int) es k) ++ layL e) := by
  apply List.ext_getElem?
  intro q
  by_cases hq : q < sp
  · rw [rowsP_get hq, dealE_app, rowL_app]
    by_cases c : k = q
    · subst c
      rw [List.getElem?_set_self (by rw [rowsP_len]; exact hq)]
      have : dealE (sp : Int) [e] (k : Int) = [e] := by unfold dealE; rw [List.filter_cons, decide_eq_true hk]; rfl
      rw [this, rowL_one]
    · rw [List.getElem?_set_ne c, rowsP_get hq]
      have : dealE (sp : Int) [e] (q : Int) = [] := by unfold dealE; rw [List.filter_cons, decide_eq_false (by omega)]; rfl
      rw [this]; simp [rowL]
  · rw [List.getElem?_eq_none (by rw [rowsP_len]; omega), List.getElem?_eq_none (by rw [List.length_set, rowsP_len]; omega)]
theorem rowL_short {es : List En} {B : Nat} (h : ∀ e ∈ es, e.data.length ≤ B) : (rowL es).length ≤ (B + 22) * es.length := by
  induction es with
  | nil => simp [rowL]
  | cons e es ih =>
    have h1 := h e List.mem_cons_self
    have h2 := ih fun u hu => h u (List.mem_cons_of_mem _ hu)
    unfold rowL at *
    rw [List.flatMap_cons, List.length_append, layL_len, List.length_cons, Nat.mul_add]; omega
theorem ensF_short {f : Nat} {ps : List (List UInt8)} : ∀ e ∈ ensF f ps, e.data.length ≤ 40 := fun e he => by
  obtain ⟨i, hi⟩ := List.mem_iff_getElem?.1 he
  have hlt := (List.getElem?_eq_some_iff.1 hi).1
  rw [ensF_len] at hlt
  rw [ensF_get (List.getElem?_eq_getElem hlt)] at hi
  cases hi
  exact (normP_len ps[i]).2
theorem dealE_short {sp : Int} {es : List En} {k : Int} {B : Nat} (h : ∀ e ∈ es, e.data.length ≤ B) : (rowL (dealE sp es k)).length ≤ (B + 22) * es.length := by
  have h1 := rowL_short (es := dealE sp es k) (B := B) fun e he => h e (List.mem_filter.1 he).1
  have h2 : (dealE sp es k).length ≤ es.length := List.length_filter_le _ _
  exact Nat.le_trans h1 (Nat.mul_le_mul_left _ h2)
/-- What Rows answers. -/
def RowsP (F sp : Nat) (ps : List (List UInt8)) (w : World) (e : Ending) (w' : World) : Prop := ∃ g, e = .returned (.slice (some ⟨g, 0, none⟩) sp sp) ∧ SOwn w w' g sp (rowsP sp (ensF F ps))
theorem dealt_at {sp T : Nat} (h : 1 ≤ sp) : ∃ K : Nat, ((T : Nat) : Int) % (sp : Int) = K ∧ K < sp := ⟨T % sp, by omega, Nat.mod_lt _ (by omega)⟩

set_option maxRecDepth 20000 in
set_option maxHeartbeats 6400000 in
theorem rows_any (a : Option Addr) (n cap F sp : Nat) (ps : List (List UInt8)) (w : World) (hr : SRow w a cap ps) (hn : ps.length = n) (hb : SB ps) (hF1 : 1 ≤ F) (hF2 : F ≤ 200000) (hs1 : 1 ≤ sp) (hs2 : sp ≤ 4) :
    Calls Try.prog 18 #[.slice a n cap, .int .i64 F, .int .i64 sp] w fun e w' => RowsP F sp ps w e w' := by
  have HR := Lib.hid hr
  have HN := Lib.hid hn
  have HB := Lib.hid hb
  have hn100 : n ≤ 100 := by have := hb.1; omega
  obtain ⟨es, hes⟩ : ∃ es, ensF F ps = es := ⟨_, rfl⟩
  have HES : Hid (∀ (i : Nat) p, ps[i]? = some p → es[i]? = some ⟨3, ((F + i : Nat) : Int), normP p⟩) := Lib.hid fun i p h => by rw [← hes]; exact ensF_get h
  have HEL : Hid (es.length = n) := Lib.hid (by rw [← hes, ensF_len, hn])
  have HSH : Hid (∀ e ∈ es, e.data.length ≤ 40) := Lib.hid (by rw [← hes]; exact ensF_short)
  have HEQ := Lib.hid hes
  clear hr hn hb hes
  go_enter Try.func18, Try.ntmps18
  go_wp2_with (at_make; refine wp_srows rfl _ _ rfl w (Below.refl _ _) .i64 .i64 _ _ sp rfl rfl rfl rfl (by omega) ?_; intro w1 o1)
  have HO1 := Lib.hid o1
  generalize w.heap.size = g at *
  clear o1
  go_wp2_with fail
  go_loopw [8] (fun i wr => ∃ (j : Nat), i = .int .i64 j ∧ j ≤ n ∧ SOwn w wr g sp (rowsP sp (es.take j))) (fun i _ => n - (intOf i).toNat)
  case atStart => exact ⟨0, rfl, by omega, by rw [List.take_zero, rowsP_nil]; exact HO1.out⟩
  case round =>
    obtain ⟨j, rfl, hj, o⟩ := hrel
    have HO := Lib.hid o
    clear o
    by_cases hjn : (j : Int) < n
    · have hjn2 : decide ((j : Int) < n) = true := decide_eq_true hjn
      obtain ⟨p, hp⟩ : ∃ l, ps[j]? = some l := ⟨ps[j]'(by have := HN.out; omega), List.getElem?_eq_getElem _⟩
      obtain ⟨b1, o1, a1, c1, rfl, p0, R1⟩ := (HR.out.later HO.out.below).at hp
      have hll := HB.out.2 p (List.mem_of_getElem? hp)
      have HE := Lib.hid (HES.out j p hp)
      have hnl := normP_len p
      obtain ⟨K, hK, hKs⟩ := dealt_at (sp := sp) (T := F + j) hs1
      have hFj : ((F + j : Nat) : Int) = (F : Int) + (j : Int) := by omega
      rw [hFj] at hK HE
      have HGK := Lib.hid (rowsP_get (es := es.take j) hKs)
      have HRL : Hid ((rowL (dealE (sp : Int) (es.take j) K)).length ≤ 6200) := Lib.hid (by
        have h1 := dealE_short (sp := (sp : Int)) (es := es.take j) (k := (K : Int)) (B := 40) fun e he => HSH.out e (List.mem_of_mem_take he)
        have h2 : (es.take j).length ≤ 100 := by rw [List.length_take]; omega
        omega)
      have HLY : Hid (layA ⟨3, (F : Int) + (j : Int), normP p⟩ = (layL ⟨3, (F : Int) + (j : Int), normP p⟩, 0)) := Lib.hid (layA_yes (rightE_iff.2 (by simp only; omega)))
      have HSN : Hid (rowsP sp (es.take (j + 1)) = (rowsP sp (es.take j)).set K (rowL (dealE (sp : Int) (es.take j) K) ++ layL ⟨3, (F : Int) + (j : Int), normP p⟩)) := Lib.hid (by
        have hjl : j < es.length := by have := HEL.out; omega
        have h1 : es[j] = ⟨3, (F : Int) + (j : Int), normP p⟩ := (List.getElem?_eq_some_iff.1 HE.out).2
        rw [List.take_succ_eq_append_getElem hjl, h1]
        exact rowsP_snoc hK hKs)
      obtain ⟨lay, hlay⟩ : ∃ l, layL ⟨3, (F : Int) + (j : Int), normP p⟩ = l := ⟨_, rfl⟩
      rw [hlay] at HSN HLY
      have HLAY := Lib.hid hlay
      obtain ⟨R, hR⟩ : ∃ l, rowL (dealE (sp : Int) (es.take j) K) = l := ⟨_, rfl⟩
      rw [hR] at HSN HGK HRL
      obtain ⟨m, hm⟩ : ∃ m, p.length = m := ⟨_, rfl⟩
      rw [hm] at p0 hll
      have HNR : Hid ((m = 0 → normP p = [0]) ∧ (m ≠ 0 → normP p = p.take (min m 40))) := Lib.hid ⟨fun h => by rw [List.length_eq_zero_iff.1 (hm.trans h)]; exact normP_nil, fun h => by rw [normP_some (by omega), hm]⟩
      have HM := Lib.hid hm
      have HR1 := Lib.hid R1
      clear hp hm R1 hlay hR hFj HE
-- REG rows
      by_cases hm0 : m = 0
      · have HNP := Lib.hid (HNR.out.1 hm0)
        subst hm0
        have HOA := Lib.hid (HO.out.later ((Below.refl _ _).alloc (Nat.le_refl _) (.cells #[.int .u8 0] 5)))
        have HTK : Hid (Row (wr.alloc (.cells #[.int .u8 0] 5)) (some ⟨wr.heap.size, 0, none⟩) 1 (normP p)) := Lib.hid (by rw [HNP.out]; exact row_new wr [0] (by decide))
        have HTL : Hid ((normP p).length = 1) := Lib.hid (by rw [HNP.out]; rfl)
        have HSL : ∀ W, (Instr.slice 34 (.slice (some ⟨wr.heap.size, 0, none⟩) 1 1) none (some (.int .i64 1)) none).run Try.prog W = .ok (.slice (some ⟨wr.heap.size, 0, none⟩) 1 1) W := fun W => run_slB (W := W) (hi := 1) HTK.out HTL.out (Nat.le_refl 1)
        obtain ⟨N5, hN5⟩ : ∃ N, (normP p).length + 22 = N := ⟨_, rfl⟩
        have HLL : Hid (lay.length = N5) := Lib.hid (by rw [← HLAY.out, layL_len]; exact hN5)
        have hN62 : N5 ≤ 62 := by omega
        clear hN5
        go_upto_region 8 with fail
        generalize (wr.alloc (.cells #[.int .u8 0] 5)) = wA at *
        generalize wr.heap.size = X at *
        have HK := Lib.hid (rlay_any ⟨3, (F : Int) + (j : Int), normP p⟩ (some ⟨X, 0, none⟩) 1 1 wA HTK.out HTL.out (by omega))
        simp only at HK
        rw [HLY.out] at HK
        simp only at HK
        go_wp2_with fail
        refine HK.out.mono ?_
        rintro x w2 ⟨v1, rfl, o2⟩
        obtain ⟨a5, c5, rfl, r5⟩ := o2.row_n HLL.out
        have HO2 := Lib.hid (HOA.out.later o2.below)
        obtain ⟨u, hu, hfz, ou, hune⟩ := HO2.out.at HGK.out
        have HU := Lib.hid hu
        have HNE := Lib.hid hune
        obtain ⟨L9, hL9⟩ : ∃ L, (R ++ lay).length = L := ⟨_, rfl⟩
        clear o2 hune HK
        go_wp2_with (at_builtin; refine wp_bapp rfl _ _ rfl u R rfl w ou a5 c5 N5 lay r5 HLL.out rfl (by have := HRL.out; have := HLL.out; omega) ?_; intro v9 w9 o9 gr hb9; obtain ⟨hc9, hf9⟩ := HO2.out.grown_at HGK.out HU.out gr HNE.out; obtain ⟨a9, c9, rfl, -⟩ := o9.row_n hL9)
        go_roundw
        case rel => exact ⟨j + 1, by go_num, by omega, by rw [HSN.out]; exact HO2.out.put HGK.out HU.out gr o9 (by rcases hb9 with h | h; exact .inl h; exact .inr (.inr h))⟩
        case measure => simp [intOf]; omega
      · have hmq : ((m : Int) == 0) = false := by simp; omega
        have HNP := Lib.hid (HNR.out.2 hm0)
        have HOA := Lib.hid HO.out
        obtain ⟨N5, hN5⟩ : ∃ N, (normP p).length + 22 = N := ⟨_, rfl⟩
        have HLL : Hid (lay.length = N5) := Lib.hid (by rw [← HLAY.out, layL_len]; exact hN5)
        have hN62 : N5 ≤ 62 := by omega
        clear hN5
        by_cases hm40 : m ≤ 40
        · have hk : min m 40 = m := by omega
          rw [hk] at HNP
          have HSL := fun W => run_slB (W := W) (hi := m) HR1.out HM.out (by omega)
          have HTK := Lib.hid (HR1.out.take m)
          rw [← HNP.out] at HTK
          have HTL : Hid ((normP p).length = m) := Lib.hid (by rw [HNP.out, List.length_take, HM.out]; omega)
          clear hk HNP
          have HK := Lib.hid (rlay_any ⟨3, (F : Int) + (j : Int), normP p⟩ a1 c1 m wr HTK.out HTL.out (by omega))
          simp only at HK
          rw [HLY.out] at HK
          simp only at HK
          go_wp2_with fail
          refine HK.out.mono ?_
          rintro x w2 ⟨v1, rfl, o2⟩
          obtain ⟨a5, c5, rfl, r5⟩ := o2.row_n HLL.out
          have HO2 := Lib.hid (HOA.out.later o2.below)
          obtain ⟨u, hu, hfz, ou, hune⟩ := HO2.out.at HGK.out
          have HU := Lib.hid hu
          have HNE := Lib.hid hune
          obtain ⟨L9, hL9⟩ : ∃ L, (R ++ lay).length = L := ⟨_, rfl⟩
          clear o2 hune HK
          go_wp2_with (at_builtin; refine wp_bapp rfl _ _ rfl u R rfl w ou a5 c5 N5 lay r5 HLL.out rfl (by have := HRL.out; have := HLL.out; omega) ?_; intro v9 w9 o9 gr hb9; obtain ⟨hc9, hf9⟩ := HO2.out.grown_at HGK.out HU.out gr HNE.out; obtain ⟨a9, c9, rfl, -⟩ := o9.row_n hL9)
          go_roundw
          case rel => exact ⟨j + 1, by go_num, by omega, by rw [HSN.out]; exact HO2.out.put HGK.out HU.out gr o9 (by rcases hb9 with h | h; exact .inl h; exact .inr (.inr h))⟩
          case measure => simp [intOf]; omega
        · have hk : min m 40 = 40 := by omega
          rw [hk] at HNP
          have HSL : ∀ W, (Instr.slice 34 (.slice a1 m c1) none (some (.int .i64 40)) none).run Try.prog W = .ok (.slice a1 40 c1) W := fun W => run_slB (W := W) (hi := 40) HR1.out HM.out (by omega)
          have HTK := Lib.hid (HR1.out.take 40)
          rw [← HNP.out] at HTK
          have HTL : Hid ((normP p).length = 40) := Lib.hid (by rw [HNP.out, List.length_take, HM.out]; omega)
          clear hk HNP
          have HK := Lib.hid (rlay_any ⟨3, (F : Int) + (j : Int), normP p⟩ a1 c1 40 wr HTK.out HTL.out (by omega))
          simp only at HK
          rw [HLY.out] at HK
          simp only at HK
          go_wp2_with fail
          refine HK.out.mono ?_
          rintro x w2 ⟨v1, rfl, o2⟩
          obtain ⟨a5, c5, rfl, r5⟩ := o2.row_n HLL.out
          have HO2 := Lib.hid (HOA.out.later o2.below)
          obtain ⟨u, hu, hfz, ou, hune⟩ := HO2.out.at HGK.out
          have HU := Lib.hid hu
          have HNE := Lib.hid hune
          obtain ⟨L9, hL9⟩ : ∃ L, (R ++ lay).length = L := ⟨_, rfl⟩
          clear o2 hune HK
          go_wp2_with (at_builtin; refine wp_bapp rfl _ _ rfl u R rfl w ou a5 c5 N5 lay r5 HLL.out rfl (by have := HRL.out; have := HLL.out; omega) ?_; intro v9 w9 o9 gr hb9; obtain ⟨hc9, hf9⟩ := HO2.out.grown_at HGK.out HU.out gr HNE.out; obtain ⟨a9, c9, rfl, -⟩ := o9.row_n hL9)
          go_roundw
          case rel => exact ⟨j + 1, by go_num, by omega, by rw [HSN.out]; exact HO2.out.put HGK.out HU.out gr o9 (by rcases hb9 with h | h; exact .inl h; exact .inr (.inr h))⟩
          case measure => simp [intOf]; omega
-- END rows
    · have hjn2 : decide ((j : Int) < n) = false := decide_eq_false hjn
      have HF : Hid (es.take j = es) := Lib.hid (List.take_of_length_le (by have := HEL.out; omega))
      go_wp2_with fail
      go_ret
      exact ⟨g, rfl, by have := HO.out; rwa [HF.out, ← HEQ.out] at this⟩
end Go.Proofs.Ytabeleihpnnadaa
