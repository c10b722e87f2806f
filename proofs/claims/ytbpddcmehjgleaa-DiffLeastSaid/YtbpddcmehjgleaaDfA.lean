/- Ways: the document's own Bytes. -/
import Derived.Test.YtbpddcmehjgleaaGMg
import Derived.Test.YtbpddcmehjgleaaGDa
import Derived.Test.YtbpddcmehjgleaaSlC
import Derived.Test.YtbpddcmehjgleaaGMf
import Derived.Test.YtbpddcmehjgleaaGMc
import Derived.BigQuiet
import Derived.Deep.CutBlock
namespace Go.Proofs.Ytbpddcmehjgleaa
open Go.RowKit Go.Proofs
set_option linter.unusedVariables false
set_option linter.unusedSimpArgs false
set_option linter.unnecessarySimpa false

/-! ### plain facts -/
theorem runU_skip (s b : List UInt8) : ∀ (q I r : Nat), (∀ j, I ≤ j → j < I + q → j < b.length ∧ s[j]? ≠ b[j]?) → runU s b I (q + r) = q + runU s b (I + q) r
  | 0, I, r, _ => by simp
  | q + 1, I, r, h => by
    rw [show q + 1 + r = (q + r) + 1 by omega]
    show (if I < b.length ∧ s[I]? ≠ b[I]? then runU s b (I + 1) (q + r) + 1 else 0) = _
    rw [if_pos (h I (Nat.le_refl _) (by omega)), runU_skip s b q (I + 1) r (fun j h1 h2 => h j (by omega) (by omega)), show I + 1 + q = I + (q + 1) by omega]
    omega
theorem runU_zero {s b : List UInt8} {i r : Nat} (h : r = 0 ∨ b.length ≤ i ∨ s[i]? = b[i]?) : runU s b i r = 0 := by
  cases r with
  | zero => rfl
  | succ r =>
    show (if i < b.length ∧ s[i]? ≠ b[i]? then _ else 0) = 0
    rw [if_neg]
    rintro ⟨h1, h2⟩
    rcases h with h | h | h
    · cases h
    · omega
    · exact h2 h
/-- The event under way: k of its bytes have been looked at. -/
def pieceK (b : List UInt8) (I N k : Nat) : Ev := if ((b.drop I).take k).all (fun x => decide (x = 0)) then ⟨3, I, N, [], []⟩ else ⟨1, I, 0, (b.drop I).take N, []⟩
theorem pieceK_zero (b : List UInt8) (I N : Nat) : pieceK b I N 0 = ⟨3, I, N, [], []⟩ := by unfold pieceK; simp
theorem pieceK_all (b : List UInt8) (I N : Nat) : pieceK b I N N = pieceD b I N := rfl
theorem pieceK_snoc {b : List UInt8} {I N k : Nat} {u : UInt8} (h : b[I + k]? = some u) : pieceK b I N (k + 1) = if u = 0 then pieceK b I N k else ⟨1, I, 0, (b.drop I).take N, []⟩ := by
  have e : (b.drop I).take (k + 1) = (b.drop I).take k ++ [u] := by
    rw [List.take_add_one, List.getElem?_drop, h]; rfl
  unfold pieceK
  rw [e, List.all_append]
  by_cases c : u = 0
  · subst c; simp
  · rw [if_neg c, if_neg]; simp [c]
theorem bytes_far {a b : List UInt8} (h : 512 < a.length ∨ 512 < b.length) : bytesD a b = [] := by unfold bytesD; rw [if_pos h]
theorem bytes_start {a b : List UInt8} (h : ¬ (512 < a.length ∨ 512 < b.length)) : ∀ f, b.length - 0 < f → (if a.length = b.length then [] else [⟨4, 0, (b.length : Int), [], []⟩]) ++ piecesF (sizedL a b.length) b f 0 = bytesD a b := by
  intro f hf
  unfold bytesD
  rw [if_neg h, piecesF_fuel (f := f) (g := b.length + 1) (by omega) (by omega)]
theorem step_skip {s b : List UInt8} {T F : List Ev} {i : Nat} (hi : i < b.length) (h0 : runU s b i 64 = 0) (h : ∀ f, b.length - i < f → T ++ piecesF s b f i = F) : ∀ f, b.length - (i + 1) < f → T ++ piecesF s b f (i + 1) = F := by
  intro f hf
  rw [← h (f + 1) (by omega)]
  congr 1
  show _ = if i < b.length then (if runU s b i 64 = 0 then piecesF s b f (i + 1) else _) else []
  rw [if_pos hi, if_pos h0]
theorem step_piece {s b : List UInt8} {T F : List Ev} {i n : Nat} (hi : i < b.length) (hn : runU s b i 64 = n) (h0 : n ≠ 0) (h : ∀ f, b.length - i < f → T ++ piecesF s b f i = F) : ∀ f, b.length - (i + n) < f → (T ++ [pieceD b i n]) ++ piecesF s b f (i + n) = F := by
  intro f hf
  rw [← h (b.length + 1) (by omega), List.append_assoc]
  congr 1
  show _ = if i < b.length then (if runU s b i 64 = 0 then _ else pieceD b i (runU s b i 64) :: piecesF s b b.length (i + runU s b i 64)) else []
  rw [if_pos hi, hn, if_neg h0, piecesF_fuel (f := f) (g := b.length) (by omega) (by omega)]
  rfl

theorem Own.at2 {W0 w : World} {a : Option Addr} {n c : Nat} {l : List UInt8} (h : Own W0 w (.slice a n c) l) (hn : l.length = n) (h0 : 0 < n) : ∃ b f, a = some ⟨b, f, none⟩ ∧ ∀ j u, l[j]? = some u → w.cell? ⟨b, f + j, none⟩ = some (B8 u) := by
  obtain ⟨a', c', hv, r⟩ := h.row_n hn
  simp only [Value.slice.injEq, true_and] at hv
  obtain ⟨rfl, rfl⟩ := hv
  exact r.at (by omega)
/-- An event in cells, its bytes the call's own. -/
def EvOw (W0 w : World) (cs : Array Value) (e : Ev) : Prop := ∃ a c, cs = #[.int .i64 e.kind, .int .i64 e.off, .int .i64 e.len, .slice a e.data.length c, .string ⟨#[]⟩] ∧ e.name = [] ∧ Own W0 w (.slice a e.data.length c) e.data
theorem EvOw.later {W0 w w' : World} {cs : Array Value} {e : Ev} (h : EvOw W0 w cs e) (hb : Below w.heap.size w w') : EvOw W0 w' cs e := by
  obtain ⟨a, c, h1, h2, h3⟩ := h
  exact ⟨a, c, h1, h2, h3.later hb⟩
theorem EvOw.rel {W0 w : World} {cs : Array Value} {e : Ev} (h : EvOw W0 w cs e) {J : Nat → Prop} {v : Value} {T : List Ev} (ht : OEv J W0 w v T) (hJ : NewJ J W0) : EvL (lessJ J v) w cs.toList e := by
  obtain ⟨a, c, rfl, h2, h3⟩ := h
  refine ⟨_, ⟨#[]⟩, rfl, by rw [h2], by decide, BQ.own_at h3 fun k hk => ⟨hJ k (h3.ltB hk).1, fun e => ?_⟩⟩
  rcases h3.neN ht (by decide) with q | q
  · rw [q] at hk; cases hk
  · exact q (hk.trans e)

def zeroEv : Array Value := #[.int .i64 0, .int .i64 0, .int .i64 0, .slice none 0 0, .string ⟨#[]⟩]
set_option maxRecDepth 100000 in
set_option maxHeartbeats 12800000 in
theorem rbytes15_any (a1 a2 : Option Addr) (n m c1 c2 : Nat) (la lb : List UInt8) (w : World) (h1 : Row w a1 c1 la) (h2 : Row w a2 c2 lb) (hn : la.length = n) (hm : lb.length = m) (hnb : n ≤ 100000) (hmb : m ≤ 100000) :
    Calls Try.prog 13 #[.slice a1 n c1, .slice a2 m c2] w fun e w' => ∃ v, e = .returned v ∧ OEv (newB w) w w' v (bytesD la lb) := by
  have HN := Lib.hid hn
  have HM := Lib.hid hm
  have HR1 := Lib.hid h1
  have HR2 := Lib.hid h2
  have hc2 := h2.1
  rw [hm] at hc2
  have hcm2 : c2 ≤ 9223372036854775807 := by have := h2.2.1; unfold maxLen at this; omega
  obtain ⟨BD, hBD⟩ : ∃ z, bytesD la lb = z := ⟨_, rfl⟩
  rw [hBD]
  have HBD := Lib.hid hBD
  clear h1 h2 hn hm hBD
  go_enter Try.func13, Try.ntmps13
  by_cases hfar : 512 < n ∨ 512 < m
  · have HF : Hid (BD = []) := Lib.hid (by rw [← HBD.out]; exact bytes_far (by rw [HN.out, HM.out]; exact hfar))
    rcases (show 512 < n ∨ (¬ 512 < n ∧ 512 < m) by omega) with h | ⟨h, h'⟩
    all_goals
      clear hfar
      go_wp2_with fail
      go_ret
      exact ⟨_, rfl, by rw [HF.out]; exact NOwn.nil' (Below.refl _ _)⟩
  · have hn5 : n ≤ 512 := by omega
    have hm5 : m ≤ 512 := by omega
    have HST := Lib.hid (bytes_start (a := la) (b := lb) (by rw [HN.out, HM.out]; exact hfar))
    rw [HN.out, HM.out, HBD.out] at HST
    clear hfar
    -- the resize, or none
    obtain ⟨PR, hPR⟩ : ∃ z : List Ev, (if n = m then [] else [⟨4, 0, (m : Int), [], []⟩]) = z := ⟨_, rfl⟩
    have hPL : PR.length ≤ 1 := by rw [← hPR]; split <;> simp
    rw [hPR] at HST
    have ue1 := Try.underlying46
    obtain ⟨NB, hNB⟩ : ∃ z, ((n : Int) != (m : Int)) = z := ⟨_, rfl⟩
    have HNB : Hid (NB = !decide (n = m)) := Lib.hid (by
      rw [← hNB]
      by_cases c : n = m
      · subst c; simp
      · simp [c]; omega)
    go_upto_if 23 with fail
    clear hNB
    go_cut [5] (fun v wx => OEv (newB w) w wx v PR)
    case first =>
      cases NB with
      | false =>
        have hnm : n = m := by have := HNB.out; simpa using this
        rw [if_pos hnm] at hPR
        subst hPR
        clear hnm
        go_wp2_with fail
        go_meet
        exact NOwn.nil' (Below.refl _ _)
      | true =>
        have hnm : ¬ n = m := by have := HNB.out; simpa using this
        rw [if_neg hnm] at hPR
        subst hPR
        clear hnm
        have HOWN : Hid (OEv (newB w) w w (.slice none 0 0) []) := Lib.hid (NOwn.nil' (Below.refl _ _))
        have HEVL : Hid (EvL (lessJ (newB w) (.slice none 0 0)) w [.int .i64 4, .int .i64 0, .int .i64 (m : Int), .slice none 0 0, .string ⟨#[]⟩] ⟨4, 0, (m : Int), [], []⟩) := Lib.hid ⟨_, ⟨#[]⟩, rfl, rfl, by decide, BQ.nil _ _⟩
        go_wp2_with (at_builtin; refine wp_non1 evT_ok ev_rel rfl (.tmp 24) (.tmp 28) rfl _ [] rfl w HOWN.out ⟨4, 0, (m : Int), [], []⟩ HEVL.out rfl (by intro u hu; simp only [List.mem_cons, List.not_mem_nil, or_false] at hu; rcases hu with rfl | rfl | rfl | rfl | rfl <;> rfl) rfl (by decide) ?_; intro v9 w9 o9)
        go_meet
        exact o9
    case rest =>
      clear hPR HNB
      have HCUT := Lib.hid hcut
      clear hcut
      go_wp2_with fail
      refine (rsized_any a1 n c1 la m wc (HR1.out.later HCUT.out.below) HN.out hnb hmb).mono ?_
      rintro e w6 ⟨sv, rfl, o6⟩
      have HS6 := Lib.hid (o6.back HCUT.out.below)
      have HO6 := Lib.hid (HCUT.out.later ev_rel o6.below)
      have hpl : PR.length ≤ 1 := hPL
      obtain ⟨SS, hSS⟩ : ∃ z, sizedL la m = z := ⟨_, rfl⟩
      have HSL : Hid (SS.length = m) := Lib.hid (by rw [← hSS, sizedL_len])
      rw [hSS] at HS6 HST
      obtain ⟨sa, cs, hsv, -⟩ := HS6.out.row_n HSL.out
      subst hsv
      have HCS : Hid (m ≤ cs ∧ cs ≤ 9223372036854775807) := Lib.hid (by
        obtain ⟨a', c', hv, r⟩ := HS6.out.row_n HSL.out
        simp only [Value.slice.injEq, true_and] at hv
        obtain ⟨rfl, rfl⟩ := hv
        have q1 := r.1
        have q2 := r.2.1
        rw [HSL.out] at q1
        unfold maxLen at q2; omega)
      have hcs1 := HCS.out.1
      have hcs2 := HCS.out.2
      clear o6 HCUT hSS
      go_wp2_with fail
      go_loopw [5, 7] (fun tv i wr => ∃ (I : Nat) (T : List Ev), i = .int .i64 I ∧ I ≤ m ∧ T.length ≤ I + 1 ∧ Hid (OEv (newB w) w wr tv T) ∧ Hid (Own w wr (.slice sa m cs) SS) ∧ Hid (∀ f, m - I < f → T ++ piecesF SS lb f I = BD)) (fun _ i _ => m - (intOf i).toNat)
      case atStart => exact ⟨0, PR, rfl, by omega, by omega, HO6, HS6, HST⟩
      case round =>
        obtain ⟨I, T, rfl, hI, hTl, HT, HS, HF⟩ := hrel
        clear HO6 HS6 HST hpl
        obtain ⟨wo, hwo⟩ : ∃ W, W = wr := ⟨_, rfl⟩
        subst hwo
        by_cases hIm : (I : Int) < m
        · have hId : decide ((I : Int) < (m : Int)) = true := decide_eq_true hIm
          go_upto_block 2 with fail
          go_cut [8] from 38 to 64 (fun k wx => ∃ q : Nat, k = .int .i64 q ∧ q ≤ 64 ∧ I + q ≤ m ∧ runU SS lb I 64 = q ∧ ∃ z, wx = wo.drewN z)
          case first =>
            go_wp2_with fail
            go_loopw [8] (fun k wr => ∃ q : Nat, k = .int .i64 q ∧ q ≤ 64 ∧ I + q ≤ m ∧ (∃ z, wr = wo.drewN z) ∧ Hid (∀ j, I ≤ j → j < I + q → j < lb.length ∧ SS[j]? ≠ lb[j]?)) (fun k _ => 64 - (intOf k).toNat)
            case atStart => exact ⟨0, rfl, by omega, by omega, ⟨0, rfl⟩, Lib.hid fun j h1 h2 => by omega⟩
            case round =>
              obtain ⟨q, rfl, hq64, hqm, ⟨z, rfl⟩, HU⟩ := hrel
              obtain ⟨Q, hQ⟩ : ∃ Q, I + q = Q := ⟨_, rfl⟩
              have hw1 : IntKind.i64.wrap ((I : Int) + (q : Int)) = (Q : Int) := by rw [IntKind.wrap_i64]; omega
              by_cases h1 : Q < m
              · have hd1 : decide ((Q : Int) < (m : Int)) = true := decide_eq_true (by omega)
                by_cases h2 : q < 64
                · have hd2 : decide ((q : Int) < 64) = true := decide_eq_true (by omega)
                  obtain ⟨x, hx⟩ : ∃ x, SS[Q]? = some x := ⟨_, List.getElem?_eq_getElem (by rw [HSL.out]; exact h1)⟩
                  obtain ⟨y, hy⟩ : ∃ x, lb[Q]? = some x := ⟨_, List.getElem?_eq_getElem (by rw [HM.out]; exact h1)⟩
                  obtain ⟨b1, f1, hb1, p1⟩ := HS.out.at2 HSL.out (by omega)
                  obtain ⟨b2, f2, hb2, p2⟩ := (HR2.out.later HT.out.below).at (by rw [HM.out]; omega)
                  subst hb1 hb2
                  have k1 := p1 Q x hx
                  have k2 := p2 Q y hy
                  simp only [B8] at k1 k2
                  obtain ⟨XV, hXV⟩ : ∃ v, (x.toNat : Int) = v := ⟨_, rfl⟩
                  obtain ⟨YV, hYV⟩ : ∃ v, (y.toNat : Int) = v := ⟨_, rfl⟩
                  rw [hXV] at k1
                  rw [hYV] at k2
                  by_cases hxy : x = y
                  · have hne : (XV != YV) = false := by subst hxy; rw [← hXV, ← hYV]; simp
                    have HRU : Hid (runU SS lb I 64 = q) := Lib.hid (by
                      have h3 := runU_skip SS lb q I (64 - q) HU.out
                      rw [show q + (64 - q) = 64 by omega] at h3
                      rw [h3, hQ, runU_zero (.inr (.inr (by rw [hx, hy, hxy])))]; rfl)
                    clear hXV hYV hx hy hxy p1 p2 HU hQ
                    go_upto_region 10 with fail
                    go_quiet (fail)
                    go_wp2_with fail
                    go_meet
                    case rel => exact ⟨q, rfl, hq64, hqm, HRU.out, _, World.drewN_drewN _ _ _⟩
                  · have hne : (XV != YV) = true := by
                      rw [← hXV, ← hYV]; simp; intro e; exact hxy (UInt8.toNat_inj.1 (by omega))
                    have HU2 : Hid (∀ j, I ≤ j → j < I + (q + 1) → j < lb.length ∧ SS[j]? ≠ lb[j]?) := Lib.hid fun j h3 h4 => by
                      by_cases e : j = Q
                      · subst e; exact ⟨by rw [HM.out]; exact h1, by rw [hx, hy]; intro e; cases e; exact hxy rfl⟩
                      · exact HU.out j h3 (by omega)
                    have hq1 : I + (q + 1) ≤ m := by omega
                    clear hXV hYV hx hy hxy p1 p2 HU hQ
                    go_upto_region 10 with fail
                    go_quiet (fail)
                    go_wp2_with fail
                    go_roundw
                    case rel => exact ⟨q + 1, by go_num, by omega, hq1, ⟨_, rfl⟩, HU2⟩
                    case measure => simp [intOf]; omega
                · have hd2 : decide ((q : Int) < 64) = false := decide_eq_false (by omega)
                  have HRU : Hid (runU SS lb I 64 = q) := Lib.hid (by
                    have h3 := runU_skip SS lb q I (64 - q) HU.out
                    rw [show q + (64 - q) = 64 by omega] at h3
                    rw [h3, runU_zero (.inl (by omega))]; rfl)
                  clear HU hQ
                  go_upto_region 10 with fail
                  go_quiet (fail)
                  go_wp2_with fail
                  go_meet
                  case rel => exact ⟨q, rfl, hq64, hqm, HRU.out, _, World.drewN_drewN _ _ _⟩
              · have hd1 : decide ((Q : Int) < (m : Int)) = false := decide_eq_false (by omega)
                have HRU : Hid (runU SS lb I 64 = q) := Lib.hid (by
                  have h3 := runU_skip SS lb q I (64 - q) HU.out
                  rw [show q + (64 - q) = 64 by omega] at h3
                  rw [h3, runU_zero (.inr (.inl (by rw [HM.out]; omega)))]; rfl)
                clear HU hQ
                go_upto_region 10 with fail
                go_quiet (fail)
                go_wp2_with fail
                go_meet
                case rel => exact ⟨q, rfl, hq64, hqm, HRU.out, _, World.drewN_drewN _ _ _⟩
          case rest =>
            obtain ⟨N, rfl, hN64, hNm, hrun, z, rfl⟩ := hcut
            have HTd := Lib.hid (HT.out.later ev_rel (below_drewN wo z))
            have HSd := Lib.hid (HS.out.later (below_drewN wo z))
            have HRUN := Lib.hid hrun
            have HFF : Hid (∀ f, lb.length - I < f → T ++ piecesF SS lb f I = BD) := Lib.hid (by rw [HM.out]; exact HF.out)
            clear hrun HT HS HF hId
            generalize wo.drewN z = wd at HTd HSd ⊢
            by_cases hN0 : N = 0
            · have HF2 : Hid (∀ f, m - (I + 1) < f → T ++ piecesF SS lb f (I + 1) = BD) := Lib.hid (by
                have h := step_skip (by rw [HM.out]; omega) (by rw [HRUN.out, hN0]) HFF.out
                rw [HM.out] at h; exact h)
              have hNe : ((N : Int) == 0) = true := by subst hN0; rfl
              clear hN0
              go_wp2_with fail
              go_roundw
              case rel => exact ⟨I + 1, T, by go_num, by omega, by omega, HTd, HSd, HF2⟩
              case measure => simp [intOf]; omega
            · obtain ⟨E, hE⟩ : ∃ E, I + N = E := ⟨_, rfl⟩
              have HE := Lib.hid hE
              have HF2 : Hid (∀ f, m - E < f → (T ++ [pieceD lb I N]) ++ piecesF SS lb f E = BD) := Lib.hid (by
                have h := step_piece (by rw [HM.out]; omega) HRUN.out hN0 HFF.out
                rw [HM.out, hE] at h; exact h)
              have hNe : ((N : Int) == 0) = false := by simp; omega
              have hw2 : IntKind.i64.wrap ((I : Int) + (N : Int)) = (E : Int) := by rw [IntKind.wrap_i64]; omega
              have HN0 := Lib.hid hN0
              have HPN := Lib.hid (RecAt.new wd zeroEv 46)
              have HBA := Lib.hid ((Below.refl wd.heap.size wd).alloc (Nat.le_refl _) (.cells zeroEv 46))
              clear hN0 hE HFF HRUN
              go_upto_region 15 with (refine wpList_rec rfl rfl wd.heap.size zeroEv #[.int .i64 3, .int .i64 I, .int .i64 N, .slice none 0 0, .string ⟨#[]⟩] rfl rfl HPN.out rfl (by kernel_rfl) (by simp [Value.oneCell']) ?_; intro w4 r1 r2 r3 r4)
              have HB4 : Hid (Below wd.heap.size wd w4) := Lib.hid (HBA.out.grown r4 HBA.out.size (fun q e => by cases e; exact Nat.le_refl _))
              have HPG : Hid (w.heap.size ≤ wd.heap.size) := Lib.hid HTd.out.below.size
              have HTN : Hid (u5.ownBlock ≠ some wd.heap.size) := Lib.hid fun e => by have := (HTd.out.ltB e).2; omega
              have HSN : Hid ((Value.slice sa m cs).ownBlock ≠ some wd.heap.size) := Lib.hid fun e => by have := (HSd.out.ltB e).2; omega
              have HT4 : Hid (OEv (fun b => newB w b ∧ b ≠ wd.heap.size) w w4 u5 T) := Lib.hid ((HTd.out.weakJ ev_rel fun b hb h => ⟨h, by omega⟩).later ev_rel HB4.out)
              have HS4 := Lib.hid (HSd.out.later HB4.out)
              have HE4 : Hid (∃ ds, RecAt w4 wd.heap.size ds 46 ∧ EvOw w w4 ds (pieceK lb I N 0)) := Lib.hid ⟨_, r1, by
                rw [pieceK_zero]
                exact ⟨none, 0, rfl, rfl, Own.nil' HT4.out.below⟩⟩
              clear HTd HSd r1 r2 r3 r4 HPN HBA HB4
              generalize wd.heap.size = P at HTN HSN HT4 HE4 HPG ⊢
              go_wp2_with fail
              go_loopw [10] (fun k wr => ∃ kk : Nat, k = .int .i64 kk ∧ kk ≤ N ∧ Hid (OEv (fun b => newB w b ∧ b ≠ P) w wr u5 T) ∧ Hid (Own w wr (.slice sa m cs) SS) ∧ Hid (∃ ds, RecAt wr P ds 46 ∧ EvOw w wr ds (pieceK lb I N kk))) (fun k _ => N - (intOf k).toNat)
              case atStart => exact ⟨0, rfl, by omega, HT4, HS4, HE4⟩
              case round =>
                obtain ⟨kk, rfl, hkN, HTk, HSk, HEk⟩ := hrel
                clear HT4 HS4 HE4
                obtain ⟨wk, hwk⟩ : ∃ W, W = wr := ⟨_, rfl⟩
                subst hwk
                by_cases hk : (kk : Int) < N
                · have hkd : decide ((kk : Int) < (N : Int)) = true := decide_eq_true (by omega)
                  obtain ⟨Q, hQ⟩ : ∃ Q, I + kk = Q := ⟨_, rfl⟩
                  have hw1 : IntKind.i64.wrap ((I : Int) + (kk : Int)) = (Q : Int) := by rw [IntKind.wrap_i64]; omega
                  have hQm : Q < m := by have := HE.out; omega
                  obtain ⟨y, hy⟩ : ∃ x, lb[Q]? = some x := ⟨_, List.getElem?_eq_getElem (by rw [HM.out]; exact hQm)⟩
                  have HSN' : Hid (pieceK lb I N (kk + 1) = if y = 0 then pieceK lb I N kk else ⟨1, I, 0, (lb.drop I).take N, []⟩) := Lib.hid (pieceK_snoc (by rw [hQ]; exact hy))
                  obtain ⟨b2, f2, hb2, p2⟩ := (HR2.out.later HTk.out.below).at (by rw [HM.out]; omega)
                  subst hb2
                  have k2 := p2 Q y hy
                  simp only [B8] at k2
                  obtain ⟨YV, hYV⟩ : ∃ v, (y.toNat : Int) = v := ⟨_, rfl⟩
                  rw [hYV] at k2
                  by_cases hy0 : y = 0
                  · have hne : (YV != 0) = false := by subst hy0; rw [← hYV]; rfl
                    rw [if_pos hy0] at HSN'
                    clear hYV hy hy0 p2 hQ
                    go_wp2_with fail
                    go_roundw
                    case rel => exact ⟨kk + 1, by go_num, by omega, HTk, HSk, by rw [HSN'.out]; exact HEk⟩
                    case measure => simp [intOf]; omega
                  · have hne : (YV != 0) = true := by
                      rw [← hYV]; simp; intro e; exact hy0 (UInt8.toNat_inj.1 (by simpa using e))
                    rw [if_neg hy0] at HSN'
                    have HRB := Lib.hid (HR2.out.later HTk.out.below)
                    have HSL := fun W => run_slB2 (W := W) HRB.out HM.out (show I ≤ E by have := HE.out; omega) (show E ≤ m by have := HE.out; omega)
                    have HE0 := Lib.hid (own_empty (W0 := wk) (w := wk) (Below.refl _ _))
                    have hba : Below wk.heap.size wk (wk.alloc (.cells #[] 5)) := (Below.refl _ _).alloc (Nat.le_refl _) _
                    obtain ⟨ds, hrc, a6, c6, hds, -, -⟩ := HEk.out
                    subst hds
                    have HRK := Lib.hid hrc
                    clear hrc
                    have hEI : E - I = N := by have := HE.out; omega
                    have HRC := Lib.hid (HRB.out.cutB (lo := I) (hi := E) (by have := HE.out; omega) (by rw [HM.out]; have := HE.out; omega))
                    rw [hEI] at HRC HSL
                    obtain ⟨LN, hLN⟩ : ∃ l, (lb.drop I).take N = l := ⟨_, rfl⟩
                    have HLN : Hid (LN.length = N) := Lib.hid (by rw [← hLN, List.length_take, List.length_drop, HM.out]; have := HE.out; omega)
                    rw [hLN] at HSN' HRC
                    have HC5 := Lib.hid (HRC.out.later hba)
                    have HNL : Hid (([] : List UInt8).length + LN.length ≤ 1000000) := Lib.hid (by rw [HLN.out, List.length_nil]; omega)
                    clear hYV hy hy0 p2 hQ hLN hEI hba
                    go_upto_region 17 with (first
                      | (at_builtin; refine wp_row rfl (.tmp 85) (.tmp 91) rfl _ [] rfl wk HE0.out _ _ N LN HC5.out HLN.out rfl (Nat.le_trans HNL.out (by decide)) ?_; intro v5 w5 o5; rw [List.nil_append] at o5; obtain ⟨a5, c5, rfl, -⟩ := o5.row_n HLN.out)
                      | (refine wpList_rec rfl rfl P _ #[.int .i64 1, .int .i64 I, .int .i64 0, .slice a5 N c5, .string ⟨#[]⟩] rfl rfl (HRK.out.later o5.below) rfl (by kernel_rfl) (by simp [Value.oneCell']) ?_; intro w6 r1 r2 r3 r4))
                    have HN5 := Lib.hid (o5.neT (HRK.out.later o5.below) (by decide))
                    have HT6 := Lib.hid ((HTk.out.later ev_rel o5.below).keptN ev_rel r4 HPG.out HTN.out (fun b hb => hb.2))
                    have HS6 := Lib.hid ((HSk.out.later o5.below).keptG r4 (.inr HSN.out) (fun q e => by cases e; exact HPG.out))
                    have HO6 := Lib.hid ((o5.back HTk.out.below).keptG r4 (.inr HN5.out) (fun q e => by cases e; exact HPG.out))
                    have HEW : Hid (EvOw w w6 #[.int .i64 1, .int .i64 I, .int .i64 0, .slice a5 N c5, .string ⟨#[]⟩] ⟨1, I, 0, LN, []⟩) := Lib.hid (by
                      refine ⟨a5, c5, ?_, rfl, ?_⟩
                      · show _ = (#[.int .i64 1, .int .i64 I, .int .i64 0, .slice a5 LN.length c5, .string ⟨#[]⟩] : Array Value)
                        rw [HLN.out]
                      · show Own w w6 (.slice a5 LN.length c5) LN
                        rw [HLN.out]; exact HO6.out)
                    have HE6 : Hid (∃ ds, RecAt w6 P ds 46 ∧ EvOw w w6 ds (pieceK lb I N (kk + 1))) := Lib.hid ⟨_, r1, by rw [HSN'.out]; exact HEW.out⟩
                    clear r1 r2 r3 r4 o5
                    go_wp2_with fail
                    go_roundw
                    case rel => exact ⟨kk + 1, by go_num, by omega, HT6, HS6, HE6⟩
                    case measure => simp [intOf]; omega
                · have hkd : decide ((kk : Int) < (N : Int)) = false := decide_eq_false (by omega)
                  have hkk : kk = N := by omega
                  have HEK' : Hid (∃ ds, RecAt wk P ds 46 ∧ EvOw w wk ds (pieceD lb I N)) := Lib.hid (by have h := HEk.out; rw [hkk, pieceK_all] at h; exact h)
                  clear hkN hkk HEk
                  have HTW : Hid (OEv (newB w) w wk u5 T) := Lib.hid (HTk.out.weakJ ev_rel fun b _ h => h.1)
                  obtain ⟨EV, hEV⟩ : ∃ e, pieceD lb I N = e := ⟨_, rfl⟩
                  rw [hEV] at HEK' HF2
                  clear hEV
                  obtain ⟨ds, hrc, hev⟩ := HEK'.out
                  have HEL := Lib.hid (hev.rel HTW.out (fun b h => h))
                  obtain ⟨a6, c6, hds, hnm, hown⟩ := hev
                  subst hds
                  clear hnm hown HEK'
                  obtain ⟨LD, hLD⟩ : ∃ l, EV.data.length = l := ⟨_, rfl⟩
                  rw [hLD] at hrc HEL
                  obtain ⟨k0, k1, k2, k3, k4⟩ := hrc.c5
                  clear hrc hLD
                  go_wp2_with (at_builtin; refine wp_nonL evT_ok ev_rel rfl (.tmp 94) (.tmp 96) rfl _ T rfl w HTW.out EV HEL.out rfl (by intro u hu; simp only [List.mem_cons, List.not_mem_nil, or_false] at hu; rcases hu with rfl | rfl | rfl | rfl | rfl <;> rfl) rfl (by omega) ?_; intro v9 w9 o9 g9 e9)
                  have HS9 := Lib.hid ((HSk.out.later ((Below.refl _ _).alloc (Nat.le_refl _) _)).keptG g9 (HSk.out.neN HTk.out (by decide)) (fun q e => (HTk.out.ltB e).1))
                  have HO9 := Lib.hid o9
                  have HTL9 : Hid ((T ++ [EV]).length ≤ E + 1 ∧ E ≤ m) := Lib.hid (by rw [List.length_append, List.length_singleton]; have := HE.out; have := HN0.out; omega)
                  clear o9 g9 e9
                  go_roundw
                  case rel => exact ⟨E, T ++ [EV], by go_num, HTL9.out.2, HTL9.out.1, HO9, HS9, HF2⟩
                  case measure => have := HE.out; have := HN0.out; simp [intOf]; omega
        · have hId : decide ((I : Int) < (m : Int)) = false := decide_eq_false hIm
          have hIe : I = m := by omega
          have HEND : Hid (T = BD) := Lib.hid (by
            have h := HF.out 1 (by omega)
            rw [piecesF_end (by rw [HM.out]; omega), List.append_nil] at h; exact h)
          clear hIe
          go_wp2_with fail
          go_ret
          exact ⟨_, rfl, by rw [← HEND.out]; exact HT.out⟩
end Go.Proofs.Ytbpddcmehjgleaa
