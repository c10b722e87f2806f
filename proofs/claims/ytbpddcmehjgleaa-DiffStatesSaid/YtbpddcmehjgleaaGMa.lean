/- Images: where the snapshot of each name lies: the program's places. | Images: the program's own Check. -/
import Derived.Test.YtbpddcmehjgleaaGMg
import Derived.Test.YtbpddcmehjgleaaEvR
import Derived.Maps.OwnSet
import Derived.Maps.Keyed
namespace Go.Proofs.Ytbpddcmehjgleaa
open Go.RowKit Go.Proofs
set_option linter.unusedVariables false
set_option linter.unusedSimpArgs false
set_option linter.unnecessarySimpa false

/-! ### maps from strings to values -/
def heldS (v : Value) : Option (DataW Value × List MemPlace) := some (.held v, [])
theorem skeyed : Go.Maps.Keyed Try.prog 9 := Go.Maps.string_keyed Try.underlying9
theorem sk_key {S : ByteArray} (h : S.size ≤ 9223372036854775807) : keyOf Try.prog 9 (.string S) = some (.string S.data.toList) := by
  have h2 : S.size ≤ maxLen := by unfold maxLen; exact h
  simp [keyOf, Try.underlying9, mapKey, h2]
def updS {α : Type} (f : List UInt8 → α) (k : List UInt8) (v : α) : List UInt8 → α := fun x => if x = k then v else f x
theorem updS_same {α : Type} (f : List UInt8 → α) (k : List UInt8) (v : α) : updS f k v k = v := by simp [updS]
theorem updS_other {α : Type} (f : List UInt8 → α) {k k' : List UInt8} (v : α) (h : k' ≠ k) : updS f k v k' = f k' := by simp [updS, h]
/-- Block b holds the map f, of n entries. -/
def SMap (w : World) (b : Nat) (f : List UInt8 → Option Value) (n : Nat) : Prop :=
  ∃ D : DataW Value, Go.Maps.Tidy D ∧ w.ownsMap Try.prog 9 heldS b n D ∧ (∀ s, Go.Maps.has D (.string s) = (f s).isSome) ∧ (∀ s z, D.atKey (.string s) (.held z) = .held ((f s).getD z)) ∧ Go.Maps.size D = n
theorem SMap.made (w : World) : SMap (w.alloc (.map #[] 0)) w.heap.size (fun _ => none) 0 :=
  ⟨.map [], Go.Maps.tidy_empty, World.ownsMap_made w _ _ _, fun s => rfl, fun s z => rfl, rfl⟩
theorem SMap.lt {w : World} {b n : Nat} {f : List UInt8 → Option Value} (h : SMap w b f n) : b < w.heap.size := by
  obtain ⟨D, _, ho, _⟩ := h; exact ho.lt
theorem SMap.keep {w w' : World} {b n : Nat} {f : List UInt8 → Option Value} (h : SMap w b f n) (hb : w'.heap[b]? = w.heap[b]?) : SMap w' b f n := by
  obtain ⟨D, ht, ⟨es, clock, h2, r⟩, hD⟩ := h
  exact ⟨D, ht, ⟨es, clock, by rw [hb]; exact h2, r⟩, hD⟩
theorem SMap.later {w w' : World} {b n : Nat} {f : List UInt8 → Option Value} (h : SMap w b f n) (hb : Below w.heap.size w w') : SMap w' b f n := h.keep (hb.block b h.lt)
theorem SMap.like {w : World} {b n : Nat} {f g : List UInt8 → Option Value} (h : SMap w b f n) (e : ∀ s, f s = g s) : SMap w b g n := by
  have : f = g := funext e
  rw [← this]; exact h
section
variable {w : World} {b n : Nat} {f : List UInt8 → Option Value} {mT eT : TypeId}
/-- 'v, ok := m[s]'. -/
theorem SMap.look (h : SMap w b f n) (ht : Try.prog.underlying mT = some (.map 9 eT)) {z : Value} (hz : ∀ w, (zeroValue eT).run Try.prog w = .ok z w) {S : ByteArray} (hs : S.size ≤ 9223372036854775807) :
    (Instr.lookup mT (.map (some b)) (.string S) true).run Try.prog w = .ok (.tuple #[(f S.data.toList).getD z, .bool (f S.data.toList).isSome]) w := by
  obtain ⟨D, _, ho, hh, hD, _⟩ := h
  obtain ⟨v, ps, hrun, hv⟩ := ho.look_ok skeyed ht (hz w) (show heldS z = some (.held z, []) from rfl) (sk_key hs)
  rw [hD _ z, hh _] at *
  simp only [heldS, Option.some.injEq, Prod.mk.injEq, DataW.held.injEq] at hv
  rw [← hv.1]; exact hrun
/-- 'm[s]'. -/
theorem SMap.look1 (h : SMap w b f n) (ht : Try.prog.underlying mT = some (.map 9 eT)) {z : Value} (hz : ∀ w, (zeroValue eT).run Try.prog w = .ok z w) {S : ByteArray} (hs : S.size ≤ 9223372036854775807) :
    (Instr.lookup mT (.map (some b)) (.string S) false).run Try.prog w = .ok ((f S.data.toList).getD z) w := by
  obtain ⟨D, _, ho, hh, hD, _⟩ := h
  obtain ⟨v, ps, hrun, hv⟩ := ho.lookup skeyed ht (hz w) (show heldS z = some (.held z, []) from rfl) (sk_key hs)
  rw [hD _ z] at hv
  simp only [heldS, Option.some.injEq, Prod.mk.injEq, DataW.held.injEq] at hv
  rw [← hv.1]; exact hrun
/-- 'len(m)'. -/
theorem SMap.len (h : SMap w b f n) (ht : Try.prog.underlying mT = some (.map 9 eT)) (ty : TypeId) : (Builtin.len_ #[mT] ty #[.map (some b)]).run Try.prog w = .ok (.int .i64 n) w := by
  obtain ⟨D, _, ho, _, _, hs⟩ := h
  rw [ho.len ht ty, hs]
/-- 'm[s] = v', s not there yet. -/
theorem SMap.put (h : SMap w b f n) (ht : Try.prog.underlying mT = some (.map 9 eT)) (hn : n < maxLen) {S : ByteArray} (hs : S.size ≤ 9223372036854775807) (hf : f S.data.toList = none) (v : Value) :
    ∃ w', (Instr.mapUpdate mT (.map (some b)) (.string S) v).run Try.prog w = .ok () w' ∧ SMap w' b (updS f S.data.toList (some v)) (n + 1) ∧ w.grownBy w' (some b) := by
  obtain ⟨D, htd, ho, hh, hD, hsz⟩ := h
  obtain ⟨w', hrun, ho', hg⟩ := ho.update skeyed ht hn (sk_key hs) (show heldS v = some (.held v, []) from rfl)
  refine ⟨w', hrun, ⟨_, htd.put (skeyed.key (sk_key hs)) _, ho', fun t => ?_, fun t z => ?_, ?_⟩, hg⟩
  · by_cases e : t = S.data.toList
    · rw [e, updS_same]; exact Go.Maps.has_put_same htd.isMap (skeyed.key (sk_key hs)) _
    · rw [updS_other _ _ e, ← hh t]
      exact Go.Maps.has_put_other (fun e2 => e (by injection e2)) _
  · by_cases e : t = S.data.toList
    · rw [e, updS_same]; exact Go.Maps.atKey_put_same htd.isMap (skeyed.key (sk_key hs)) _ _
    · rw [updS_other _ _ e, ← hD t z]
      exact Go.Maps.atKey_put_other (fun e2 => e (by injection e2)) _ _
  · rw [Go.Maps.size_put htd, hh, hf, hsz]; simp
end
theorem run_makeMapR (t k e : TypeId) (w : World) (n : Int) (ht : Try.prog.underlying t = some (.map k e)) : (Instr.makeMap t (some (.int .i64 n))).run Try.prog w = .ok (.map (some w.heap.size)) (w.alloc (.map #[] 0)) := by
  simp [Instr.makeMap, run_underlying ht]
  rfl
/-! ### places -/
def placeV (l : List Od) (n : List UInt8) : Option Value := (placeO l n).map fun k => .int .i64 ((k : Nat) : Int)
theorem placeO_snoc (l : List Od) (o : Od) (n : List UInt8) : placeO (l ++ [o]) n = match placeO l n with | some k => some k | none => if o.name = n then some l.length else none := by
  unfold placeO
  rw [List.findIdx?_append]
  cases h : l.findIdx? fun o => decide (o.name = n) with
  | some k => simp
  | none =>
    by_cases c : o.name = n
    · simp [List.findIdx?_cons, c]
    · simp [List.findIdx?_cons, c]
theorem apartO_not {l : List Od} {o : Od} {k : Nat} (h : placeO l o.name = some k) : ¬ ApartO (l ++ [o]) := by
  obtain ⟨p, hp, _, hn⟩ := placeO_look h
  have hk := (List.getElem?_eq_some_iff.1 hp).1
  intro c
  refine c k l.length p o hk (by rw [List.getElem?_append_left hk]; exact hp) (by simp) hn
theorem apartO_pre {l : List Od} {o : Od} (h : ApartO (l ++ [o])) : ApartO l := apartO_sub h (List.sublist_append_left _ _)
def PlacesIs (w : World) (l : List Od) (e : Ending) (w' : World) : Prop := ∃ k, e = .returned (.map (some w.heap.size)) ∧ SMap w' w.heap.size (placeV l) k ∧ Below w.heap.size w w' ∧ (k = l.length ↔ ApartO l)
theorem zero_int (w : World) : (zeroValue 3).run Try.prog w = .ok (.int .i64 0) w := by kernel_rfl
set_option maxRecDepth 20000 in
set_option maxHeartbeats 6400000 in
theorem places_any (a : Option Addr) (n cap : Nat) (l : List Od) (J : Nat → Prop) (w : World) (h : QO J w (.slice a n cap) l) (hb : n ≤ 1000) :
    Calls Try.prog 53 #[.slice a n cap] w fun e w' => PlacesIs w l e w' := by
  obtain ⟨hn, hcap, hcm, ha⟩ := h.cap
  unfold maxLen at hcm
  have hmm := fun W => run_makeMapR 69 9 3 W n Try.underlying69
  have HR := Lib.hid h
  have HN := Lib.hid hn
  have HM0 := Lib.hid (SMap.made w)
  have HB0 := Lib.hid ((Below.refl w.heap.size w).alloc (Nat.le_refl _) (.map #[] 0))
  clear h hn
  go_enter Try.func53, Try.ntmps53
  go_upto_region 2 with fail
  clear hmm
  obtain ⟨wm, hwm⟩ : ∃ W, w.alloc (.map #[] 0) = W := ⟨_, rfl⟩
  rw [hwm] at HM0 HB0 ⊢
  obtain ⟨B, hB⟩ : ∃ B, w.heap.size = B := ⟨_, rfl⟩
  rw [hB] at HM0 ⊢
  have HBW := Lib.hid hB
  clear hwm hB
  go_wp2_with fail
  go_loopw [13] (fun i wr => ∃ (j k : Nat), i = .int .i64 j ∧ j ≤ n ∧ k ≤ j ∧ Below w.heap.size w wr ∧ SMap wr B (placeV (l.take j)) k ∧ Hid (k = j ↔ ApartO (l.take j))) (fun i _ => n - (intOf i).toNat)
  case atStart => exact ⟨0, 0, rfl, by omega, by omega, HB0.out, HM0.out.like fun s => by simp [placeV, placeO], Lib.hid ⟨fun _ => fun i j a b _ h => by simp at h, fun _ => rfl⟩⟩
  case round =>
    obtain ⟨j, k, rfl, hj, hk, hbw, hsm, HA⟩ := hrel
    have HBR := Lib.hid hbw
    have HSM := Lib.hid hsm
    clear hbw hsm
    by_cases hjn : (j : Int) < n
    · have hjn2 : j < n := by omega
      obtain ⟨o, ho⟩ : ∃ e, l[j]? = some e := ⟨l[j]'(by have := HN.out; omega), List.getElem?_eq_getElem _⟩
      obtain ⟨b, off, S, a2, c2, rfl, p0, p1, hS, hS2, _⟩ := (HR.out.later od_rel HBR.out).o2 ho
      have HTK : Hid (l.take (j + 1) = l.take j ++ [o]) := Lib.hid (by rw [List.take_add_one, ho]; rfl)
      have HLT : Hid ((l.take j).length = j) := Lib.hid (by rw [List.length_take, HN.out]; omega)
      clear ho
      generalize o.data.length = L at *
      have hba := (Below.refl wr.heap.size wr).alloc (Nat.le_refl _) (.cells #[.string S, .slice a2 L c2] 38)
      have hlk := (HSM.out.later hba).look Try.underlying69 zero_int hS2
      rw [hS] at hlk
      cases hp : placeO (l.take j) o.name with
      | some q =>
        rw [show placeV (l.take j) o.name = some (.int .i64 ((q : Nat) : Int)) by unfold placeV; rw [hp]; rfl] at hlk
        simp only [Option.getD_some, Option.isSome_some] at hlk
        have HA2 : Hid (k = j + 1 ↔ ApartO (l.take (j + 1))) := Lib.hid ⟨fun c => by omega, fun c => by rw [HTK.out] at c; exact absurd c (apartO_not hp)⟩
        have HE : Hid (∀ s, placeV (l.take j) s = placeV (l.take (j + 1)) s) := Lib.hid fun s => by
          unfold placeV
          rw [HTK.out, placeO_snoc]
          cases h1 : placeO (l.take j) s with
          | some q => rfl
          | none =>
            by_cases c : o.name = s
            · rw [c, h1] at hp; cases hp
            · simp only [if_neg c]
        have HBX := Lib.hid hba
        clear hp hba HTK
        go_wp2_with fail
        go_roundw
        case rel => exact ⟨j + 1, k, by go_num, by omega, by omega, HBR.out.trans (HBX.out.mono HBR.out.size), (HSM.out.later HBX.out).like HE.out, HA2⟩
        case measure => simp [intOf]; omega
      | none =>
        rw [show placeV (l.take j) o.name = none by unfold placeV; rw [hp]; rfl] at hlk
        simp only [Option.getD_none, Option.isSome_none] at hlk
        obtain ⟨w5, hput, hsm5, hg5⟩ := (HSM.out.later hba).put Try.underlying69 (by unfold maxLen; omega) hS2 (by rw [hS]; unfold placeV; rw [hp]; rfl) (.int .i64 ((j : Nat) : Int))
        rw [hS] at hsm5
        have HE : Hid (∀ s, updS (placeV (l.take j)) o.name (some (.int .i64 ((j : Nat) : Int))) s = placeV (l.take (j + 1)) s) := Lib.hid fun s => by
          rw [HTK.out]
          by_cases c : s = o.name
          · rw [c, updS_same]; unfold placeV; rw [placeO_snoc, hp]; simp only [if_true, Option.map_some]; rw [HLT.out]
          · rw [updS_other _ _ c]; unfold placeV; rw [placeO_snoc]
            cases h1 : placeO (l.take j) s with
            | some q => rfl
            | none => simp only [if_neg (show ¬ o.name = s from fun e => c e.symm)]
        have HA2 : Hid (k + 1 = j + 1 ↔ ApartO (l.take (j + 1))) := Lib.hid (by
          rw [HTK.out]
          constructor
          · intro c
            exact apartO_snoc (HA.out.1 (by omega)) (placeO_none.1 hp)
          · intro c
            have := HA.out.2 (apartO_pre c)
            omega)
        have HB5 : Hid (Below w.heap.size w w5) := Lib.hid ((HBR.out.trans (hba.mono HBR.out.size)).grown hg5 (HBR.out.trans (hba.mono HBR.out.size)).size (fun q hq => by cases hq; have := HBW.out; omega))
        have HS5 := Lib.hid hsm5
        clear hp hba hsm5 hg5 HTK hS
        go_wp2_with fail
        go_roundw
        case rel => exact ⟨j + 1, k + 1, by go_num, by omega, by omega, HB5.out, HS5.out.like HE.out, HA2⟩
        case measure => simp [intOf]; omega
    · have hjN : j = n := by omega
      have HF : Hid (PlacesIs w l (.returned (.map (some B))) wr) := Lib.hid (by
        have h1 := HSM.out
        have h2 := HA.out
        rw [List.take_of_length_le (by rw [HN.out]; omega)] at h1 h2
        refine ⟨k, by rw [HBW.out], by rw [HBW.out]; exact h1, HBR.out, by rw [HN.out, ← hjN]; exact h2⟩)
      clear hjN
      go_wp2_with fail
      go_ret
      exact HF.out
end Go.Proofs.Ytbpddcmehjgleaa
namespace Go.Proofs.Ytbpddcmehjgleaa
open Go.RowKit Go.Proofs
set_option linter.unusedVariables false
set_option linter.unusedSimpArgs false
set_option linter.unnecessarySimpa false

def mpV (l : List Od) : SV := ⟨fun w x => ∃ b k, x = .map (some b) ∧ SMap w b (placeV l) k, fun w w' x ⟨b, k, h1, h2⟩ hb => ⟨b, k, h1, h2.later hb⟩⟩
theorem calls_mp {f : FuncId} {args : Array Value} {w : World} {l : List Od} (h : Calls Try.prog f args w fun e w' => PlacesIs w l e w') : Calls Try.prog f args w fun e w' => ∃ x, e = .returned x ∧ (mpV l).p w' x ∧ Below w.heap.size w w' :=
  h.mono fun e w' ⟨k, h1, h2, h3, _⟩ => ⟨_, h1, ⟨_, k, rfl, h2⟩, h3⟩
/-- What the map answers. -/
theorem placeV_tup (l : List Od) (n : List UInt8) : ∃ (K : Int) (F : Bool), (Value.tuple #[(placeV l n).getD (.int .i64 0), .bool (placeV l n).isSome] = .tuple #[.int .i64 K, .bool F]) ∧ F = (placeO l n).isSome := by
  unfold placeV
  cases placeO l n with
  | none => exact ⟨0, false, rfl, rfl⟩
  | some k => exact ⟨k, true, rfl, rfl⟩
theorem checkF_snap {s : Sx} {e : Ev} (h : e.right = true) (hk : e.kind = 5) : checkM s e = if (placeO s.snaps e.name).isSome then 5 else if 8 ≤ s.snaps.length then 6 else 0 := by
  unfold checkM; rw [if_neg (by rw [h]; simp), if_neg (by omega), if_pos hk]
theorem checkF_name {s : Sx} {e : Ev} (h : e.right = true) (hk : e.kind = 6 ∨ e.kind = 7) : checkM s e = if (placeO s.snaps e.name).isSome then 0 else 4 := by
  unfold checkM; rw [if_neg (by rw [h]; simp), if_neg (by omega), if_neg (by omega), if_pos hk]
section
variable (d v : Value) (s : Sx) (o m : Int) (a : Option Addr) (n c : Nat) (l : List UInt8) (T : ByteArray) (J : Nat → Prop) (w : World)
set_option maxRecDepth 20000 in
set_option maxHeartbeats 6400000 in
theorem pcheck14_p1 (h : StA J w d v s) (hok : s.snaps.length ≤ 1000) (hr : Row w a c l) (hn : l.length = n) (hT : T.size ≤ 9223372036854775807) :
    Calls Try.prog 38 #[.agg #[d, v], .agg #[.int .i64 1, .int .i64 o, .int .i64 m, .slice a n c, .string T]] w fun e w' => e = .returned (.int .i64 (checkM s ⟨1, o, m, l, T.data.toList⟩)) ∧ Below w.heap.size w w' := by
  obtain ⟨a1, c1, a2, c2, rfl, rfl, rd, rs⟩ := h.open
  obtain ⟨CK, hCK⟩ : ∃ z, checkM s ⟨1, o, m, l, T.data.toList⟩ = z := ⟨_, rfl⟩
  rw [hCK]
  have HCK := Lib.hid hCK
  clear hCK
  obtain ⟨X2, X3, B3⟩ := two_recsS w #[.slice a1 s.data.length c1, .slice a2 s.snaps.length c2] #[.int .i64 1, .int .i64 o, .int .i64 m, .slice a n c, .string T] 32 46
  obtain ⟨w1, hw1⟩ : ∃ W, ((w.alloc (.cells #[.slice a1 s.data.length c1, .slice a2 s.snaps.length c2] 32)).alloc (.cells #[.int .i64 1, .int .i64 o, .int .i64 m, .slice a n c, .string T] 46)) = W := ⟨_, rfl⟩
  rw [hw1] at X2 X3 B3
  obtain ⟨nd, hnd⟩ : ∃ z, s.data.length = z := ⟨_, rfl⟩
  obtain ⟨ns, hns⟩ : ∃ z, s.snaps.length = z := ⟨_, rfl⟩
  rw [hnd] at X2 hw1 ⊢
  rw [hns] at X2 hw1 rs hok ⊢
  have HX2 := Lib.hid X2
  have HX3 := Lib.hid X3
  have HB3 := Lib.hid B3
  have HRS := Lib.hid (rs.later od_rel B3)
  have hndc : nd ≤ 9223372036854775807 := by have := rd.1; have := rd.2.1; unfold maxLen at this; omega
  have hnsc : ns ≤ 9223372036854775807 := by obtain ⟨_, h1, h2, _⟩ := rs.cap; unfold maxLen at h2; omega
  have HRE := Lib.hid (eright_any o m a n c l T w1 1 (hr.later B3) hn hT)
  have HSP := Lib.hid (fun W (hb : Below w1.heap.size w1 W) => espan_any 1 o m a n c l T W ((hr.later B3).later hb) hn hT)
  clear X2 X3 B3 rd rs hr hn h
  obtain ⟨x0, x1⟩ := HX2.out.c2
  obtain ⟨y0, y1, y2, y3, y4⟩ := HX3.out.c5
  go_enter Try.func38, Try.ntmps38
  go_upto_region 1 with fail
  try rw [hw1]
  clear hw1
  obtain ⟨X, hX⟩ : ∃ X, w.heap.size = X := ⟨_, rfl⟩
  simp only [hX] at HX2 HX3 x0 x1 y0 y1 y2 y3 y4 ⊢
  have HXS := Lib.hid hX
  clear hX
  go_wp2_with fail
  refine HRE.out.mono ?_
  rintro e w2 ⟨rfl, b2⟩
  have HB2 := Lib.hid (HB3.out.trans (b2.mono HB3.out.size))
  have HX22 := Lib.hid (HX2.out.later b2)
  have HX32 := Lib.hid (HX3.out.later b2)
  have HR2 := Lib.hid (HRS.out.later od_rel b2)
  have HSP2 := Lib.hid (HSP.out w2 b2)
  clear b2 x0 x1 y0 y1 y2 y3 y4 HSP HRE HRS
  obtain ⟨x0, x1⟩ := HX22.out.c2
  obtain ⟨y0, y1, y2, y3, y4⟩ := HX32.out.c5
  cases hR : Ev.right ⟨1, o, m, l, T.data.toList⟩ with
  | false =>
    have HF := Lib.hid (HCK.out.symm.trans (check_no hR))
    clear hR
    go_wp2_with fail
    go_ret
    rw [HF.out]
    exact ⟨rfl, HB2.out⟩
  | true =>
    have hs := span_le hR (by simp)
    have HF := Lib.hid (HCK.out.symm.trans (check_plain hR (by simp)))
    rw [hnd] at HF
    obtain ⟨p, hp⟩ : ∃ z, (spanA ⟨1, o, m, l, T.data.toList⟩).1 = z := ⟨_, rfl⟩
    obtain ⟨q, hq⟩ : ∃ z, (spanA ⟨1, o, m, l, T.data.toList⟩).2 = z := ⟨_, rfl⟩
    rw [hp, hq] at HSP2 hs HF
    have hw : wrap64 (p + q) = p + q := IntWalk.wrap64_in _ (by omega)
    clear hR hp hq
    go_wp2_with fail
    refine HSP2.out.mono ?_
    rintro e w3 ⟨rfl, b3⟩
    have HB4 := Lib.hid (HB2.out.trans (b3.mono HB2.out.size))
    obtain ⟨z0, z1⟩ := (HX22.out.later b3).c2
    clear b3 x0 x1 y0 y1 y2 y3 y4
    by_cases hlt : (nd : Int) < p + q
    · rw [if_pos hlt] at HF
      go_wp2_with fail
      go_ret
      rw [HF.out]
      exact ⟨rfl, HB4.out⟩
    · rw [if_neg hlt] at HF
      go_wp2_with fail
      go_ret
      rw [HF.out]
      exact ⟨rfl, HB4.out⟩
set_option maxRecDepth 20000 in
set_option maxHeartbeats 6400000 in
theorem pcheck14_p2 (h : StA J w d v s) (hok : s.snaps.length ≤ 1000) (hr : Row w a c l) (hn : l.length = n) (hT : T.size ≤ 9223372036854775807) :
    Calls Try.prog 38 #[.agg #[d, v], .agg #[.int .i64 2, .int .i64 o, .int .i64 m, .slice a n c, .string T]] w fun e w' => e = .returned (.int .i64 (checkM s ⟨2, o, m, l, T.data.toList⟩)) ∧ Below w.heap.size w w' := by
  obtain ⟨a1, c1, a2, c2, rfl, rfl, rd, rs⟩ := h.open
  obtain ⟨CK, hCK⟩ : ∃ z, checkM s ⟨2, o, m, l, T.data.toList⟩ = z := ⟨_, rfl⟩
  rw [hCK]
  have HCK := Lib.hid hCK
  clear hCK
  obtain ⟨X2, X3, B3⟩ := two_recsS w #[.slice a1 s.data.length c1, .slice a2 s.snaps.length c2] #[.int .i64 2, .int .i64 o, .int .i64 m, .slice a n c, .string T] 32 46
  obtain ⟨w1, hw1⟩ : ∃ W, ((w.alloc (.cells #[.slice a1 s.data.length c1, .slice a2 s.snaps.length c2] 32)).alloc (.cells #[.int .i64 2, .int .i64 o, .int .i64 m, .slice a n c, .string T] 46)) = W := ⟨_, rfl⟩
  rw [hw1] at X2 X3 B3
  obtain ⟨nd, hnd⟩ : ∃ z, s.data.length = z := ⟨_, rfl⟩
  obtain ⟨ns, hns⟩ : ∃ z, s.snaps.length = z := ⟨_, rfl⟩
  rw [hnd] at X2 hw1 ⊢
  rw [hns] at X2 hw1 rs hok ⊢
  have HX2 := Lib.hid X2
  have HX3 := Lib.hid X3
  have HB3 := Lib.hid B3
  have HRS := Lib.hid (rs.later od_rel B3)
  have hndc : nd ≤ 9223372036854775807 := by have := rd.1; have := rd.2.1; unfold maxLen at this; omega
  have hnsc : ns ≤ 9223372036854775807 := by obtain ⟨_, h1, h2, _⟩ := rs.cap; unfold maxLen at h2; omega
  have HRE := Lib.hid (eright_any o m a n c l T w1 2 (hr.later B3) hn hT)
  have HSP := Lib.hid (fun W (hb : Below w1.heap.size w1 W) => espan_any 2 o m a n c l T W ((hr.later B3).later hb) hn hT)
  clear X2 X3 B3 rd rs hr hn h
  obtain ⟨x0, x1⟩ := HX2.out.c2
  obtain ⟨y0, y1, y2, y3, y4⟩ := HX3.out.c5
  go_enter Try.func38, Try.ntmps38
  go_upto_region 1 with fail
  try rw [hw1]
  clear hw1
  obtain ⟨X, hX⟩ : ∃ X, w.heap.size = X := ⟨_, rfl⟩
  simp only [hX] at HX2 HX3 x0 x1 y0 y1 y2 y3 y4 ⊢
  have HXS := Lib.hid hX
  clear hX
  go_wp2_with fail
  refine HRE.out.mono ?_
  rintro e w2 ⟨rfl, b2⟩
  have HB2 := Lib.hid (HB3.out.trans (b2.mono HB3.out.size))
  have HX22 := Lib.hid (HX2.out.later b2)
  have HX32 := Lib.hid (HX3.out.later b2)
  have HR2 := Lib.hid (HRS.out.later od_rel b2)
  have HSP2 := Lib.hid (HSP.out w2 b2)
  clear b2 x0 x1 y0 y1 y2 y3 y4 HSP HRE HRS
  obtain ⟨x0, x1⟩ := HX22.out.c2
  obtain ⟨y0, y1, y2, y3, y4⟩ := HX32.out.c5
  cases hR : Ev.right ⟨2, o, m, l, T.data.toList⟩ with
  | false =>
    have HF := Lib.hid (HCK.out.symm.trans (check_no hR))
    clear hR
    go_wp2_with fail
    go_ret
    rw [HF.out]
    exact ⟨rfl, HB2.out⟩
  | true =>
    have hs := span_le hR (by simp)
    have HF := Lib.hid (HCK.out.symm.trans (check_plain hR (by simp)))
    rw [hnd] at HF
    obtain ⟨p, hp⟩ : ∃ z, (spanA ⟨2, o, m, l, T.data.toList⟩).1 = z := ⟨_, rfl⟩
    obtain ⟨q, hq⟩ : ∃ z, (spanA ⟨2, o, m, l, T.data.toList⟩).2 = z := ⟨_, rfl⟩
    rw [hp, hq] at HSP2 hs HF
    have hw : wrap64 (p + q) = p + q := IntWalk.wrap64_in _ (by omega)
    clear hR hp hq
    go_wp2_with fail
    refine HSP2.out.mono ?_
    rintro e w3 ⟨rfl, b3⟩
    have HB4 := Lib.hid (HB2.out.trans (b3.mono HB2.out.size))
    obtain ⟨z0, z1⟩ := (HX22.out.later b3).c2
    clear b3 x0 x1 y0 y1 y2 y3 y4
    by_cases hlt : (nd : Int) < p + q
    · rw [if_pos hlt] at HF
      go_wp2_with fail
      go_ret
      rw [HF.out]
      exact ⟨rfl, HB4.out⟩
    · rw [if_neg hlt] at HF
      go_wp2_with fail
      go_ret
      rw [HF.out]
      exact ⟨rfl, HB4.out⟩
set_option maxRecDepth 20000 in
set_option maxHeartbeats 6400000 in
theorem pcheck14_p3 (h : StA J w d v s) (hok : s.snaps.length ≤ 1000) (hr : Row w a c l) (hn : l.length = n) (hT : T.size ≤ 9223372036854775807) :
    Calls Try.prog 38 #[.agg #[d, v], .agg #[.int .i64 3, .int .i64 o, .int .i64 m, .slice a n c, .string T]] w fun e w' => e = .returned (.int .i64 (checkM s ⟨3, o, m, l, T.data.toList⟩)) ∧ Below w.heap.size w w' := by
  obtain ⟨a1, c1, a2, c2, rfl, rfl, rd, rs⟩ := h.open
  obtain ⟨CK, hCK⟩ : ∃ z, checkM s ⟨3, o, m, l, T.data.toList⟩ = z := ⟨_, rfl⟩
  rw [hCK]
  have HCK := Lib.hid hCK
  clear hCK
  obtain ⟨X2, X3, B3⟩ := two_recsS w #[.slice a1 s.data.length c1, .slice a2 s.snaps.length c2] #[.int .i64 3, .int .i64 o, .int .i64 m, .slice a n c, .string T] 32 46
  obtain ⟨w1, hw1⟩ : ∃ W, ((w.alloc (.cells #[.slice a1 s.data.length c1, .slice a2 s.snaps.length c2] 32)).alloc (.cells #[.int .i64 3, .int .i64 o, .int .i64 m, .slice a n c, .string T] 46)) = W := ⟨_, rfl⟩
  rw [hw1] at X2 X3 B3
  obtain ⟨nd, hnd⟩ : ∃ z, s.data.length = z := ⟨_, rfl⟩
  obtain ⟨ns, hns⟩ : ∃ z, s.snaps.length = z := ⟨_, rfl⟩
  rw [hnd] at X2 hw1 ⊢
  rw [hns] at X2 hw1 rs hok ⊢
  have HX2 := Lib.hid X2
  have HX3 := Lib.hid X3
  have HB3 := Lib.hid B3
  have HRS := Lib.hid (rs.later od_rel B3)
  have hndc : nd ≤ 9223372036854775807 := by have := rd.1; have := rd.2.1; unfold maxLen at this; omega
  have hnsc : ns ≤ 9223372036854775807 := by obtain ⟨_, h1, h2, _⟩ := rs.cap; unfold maxLen at h2; omega
  have HRE := Lib.hid (eright_any o m a n c l T w1 3 (hr.later B3) hn hT)
  have HSP := Lib.hid (fun W (hb : Below w1.heap.size w1 W) => espan_any 3 o m a n c l T W ((hr.later B3).later hb) hn hT)
  clear X2 X3 B3 rd rs hr hn h
  obtain ⟨x0, x1⟩ := HX2.out.c2
  obtain ⟨y0, y1, y2, y3, y4⟩ := HX3.out.c5
  go_enter Try.func38, Try.ntmps38
  go_upto_region 1 with fail
  try rw [hw1]
  clear hw1
  obtain ⟨X, hX⟩ : ∃ X, w.heap.size = X := ⟨_, rfl⟩
  simp only [hX] at HX2 HX3 x0 x1 y0 y1 y2 y3 y4 ⊢
  have HXS := Lib.hid hX
  clear hX
  go_wp2_with fail
  refine HRE.out.mono ?_
  rintro e w2 ⟨rfl, b2⟩
  have HB2 := Lib.hid (HB3.out.trans (b2.mono HB3.out.size))
  have HX22 := Lib.hid (HX2.out.later b2)
  have HX32 := Lib.hid (HX3.out.later b2)
  have HR2 := Lib.hid (HRS.out.later od_rel b2)
  have HSP2 := Lib.hid (HSP.out w2 b2)
  clear b2 x0 x1 y0 y1 y2 y3 y4 HSP HRE HRS
  obtain ⟨x0, x1⟩ := HX22.out.c2
  obtain ⟨y0, y1, y2, y3, y4⟩ := HX32.out.c5
  cases hR : Ev.right ⟨3, o, m, l, T.data.toList⟩ with
  | false =>
    have HF := Lib.hid (HCK.out.symm.trans (check_no hR))
    clear hR
    go_wp2_with fail
    go_ret
    rw [HF.out]
    exact ⟨rfl, HB2.out⟩
  | true =>
    have hs := span_le hR (by simp)
    have HF := Lib.hid (HCK.out.symm.trans (check_plain hR (by simp)))
    rw [hnd] at HF
    obtain ⟨p, hp⟩ : ∃ z, (spanA ⟨3, o, m, l, T.data.toList⟩).1 = z := ⟨_, rfl⟩
    obtain ⟨q, hq⟩ : ∃ z, (spanA ⟨3, o, m, l, T.data.toList⟩).2 = z := ⟨_, rfl⟩
    rw [hp, hq] at HSP2 hs HF
    have hw : wrap64 (p + q) = p + q := IntWalk.wrap64_in _ (by omega)
    clear hR hp hq
    go_wp2_with fail
    refine HSP2.out.mono ?_
    rintro e w3 ⟨rfl, b3⟩
    have HB4 := Lib.hid (HB2.out.trans (b3.mono HB2.out.size))
    obtain ⟨z0, z1⟩ := (HX22.out.later b3).c2
    clear b3 x0 x1 y0 y1 y2 y3 y4
    by_cases hlt : (nd : Int) < p + q
    · rw [if_pos hlt] at HF
      go_wp2_with fail
      go_ret
      rw [HF.out]
      exact ⟨rfl, HB4.out⟩
    · rw [if_neg hlt] at HF
      go_wp2_with fail
      go_ret
      rw [HF.out]
      exact ⟨rfl, HB4.out⟩
set_option maxRecDepth 20000 in
set_option maxHeartbeats 6400000 in
theorem pcheck14_p4 (h : StA J w d v s) (hok : s.snaps.length ≤ 1000) (hr : Row w a c l) (hn : l.length = n) (hT : T.size ≤ 9223372036854775807) :
    Calls Try.prog 38 #[.agg #[d, v], .agg #[.int .i64 4, .int .i64 o, .int .i64 m, .slice a n c, .string T]] w fun e w' => e = .returned (.int .i64 (checkM s ⟨4, o, m, l, T.data.toList⟩)) ∧ Below w.heap.size w w' := by
  obtain ⟨a1, c1, a2, c2, rfl, rfl, rd, rs⟩ := h.open
  obtain ⟨CK, hCK⟩ : ∃ z, checkM s ⟨4, o, m, l, T.data.toList⟩ = z := ⟨_, rfl⟩
  rw [hCK]
  have HCK := Lib.hid hCK
  clear hCK
  obtain ⟨X2, X3, B3⟩ := two_recsS w #[.slice a1 s.data.length c1, .slice a2 s.snaps.length c2] #[.int .i64 4, .int .i64 o, .int .i64 m, .slice a n c, .string T] 32 46
  obtain ⟨w1, hw1⟩ : ∃ W, ((w.alloc (.cells #[.slice a1 s.data.length c1, .slice a2 s.snaps.length c2] 32)).alloc (.cells #[.int .i64 4, .int .i64 o, .int .i64 m, .slice a n c, .string T] 46)) = W := ⟨_, rfl⟩
  rw [hw1] at X2 X3 B3
  obtain ⟨nd, hnd⟩ : ∃ z, s.data.length = z := ⟨_, rfl⟩
  obtain ⟨ns, hns⟩ : ∃ z, s.snaps.length = z := ⟨_, rfl⟩
  rw [hnd] at X2 hw1 ⊢
  rw [hns] at X2 hw1 rs hok ⊢
  have HX2 := Lib.hid X2
  have HX3 := Lib.hid X3
  have HB3 := Lib.hid B3
  have HRS := Lib.hid (rs.later od_rel B3)
  have hndc : nd ≤ 9223372036854775807 := by have := rd.1; have := rd.2.1; unfold maxLen at this; omega
  have hnsc : ns ≤ 9223372036854775807 := by obtain ⟨_, h1, h2, _⟩ := rs.cap; unfold maxLen at h2; omega
  have HRE := Lib.hid (eright_any o m a n c l T w1 4 (hr.later B3) hn hT)
  have HSP := Lib.hid (fun W (hb : Below w1.heap.size w1 W) => espan_any 4 o m a n c l T W ((hr.later B3).later hb) hn hT)
  clear X2 X3 B3 rd rs hr hn h
  obtain ⟨x0, x1⟩ := HX2.out.c2
  obtain ⟨y0, y1, y2, y3, y4⟩ := HX3.out.c5
  go_enter Try.func38, Try.ntmps38
  go_upto_region 1 with fail
  try rw [hw1]
  clear hw1
  obtain ⟨X, hX⟩ : ∃ X, w.heap.size = X := ⟨_, rfl⟩
  simp only [hX] at HX2 HX3 x0 x1 y0 y1 y2 y3 y4 ⊢
  have HXS := Lib.hid hX
  clear hX
  go_wp2_with fail
  refine HRE.out.mono ?_
  rintro e w2 ⟨rfl, b2⟩
  have HB2 := Lib.hid (HB3.out.trans (b2.mono HB3.out.size))
  have HX22 := Lib.hid (HX2.out.later b2)
  have HX32 := Lib.hid (HX3.out.later b2)
  have HR2 := Lib.hid (HRS.out.later od_rel b2)
  have HSP2 := Lib.hid (HSP.out w2 b2)
  clear b2 x0 x1 y0 y1 y2 y3 y4 HSP HRE HRS
  obtain ⟨x0, x1⟩ := HX22.out.c2
  obtain ⟨y0, y1, y2, y3, y4⟩ := HX32.out.c5
  cases hR : Ev.right ⟨4, o, m, l, T.data.toList⟩ with
  | false =>
    have HF := Lib.hid (HCK.out.symm.trans (check_no hR))
    clear hR
    go_wp2_with fail
    go_ret
    rw [HF.out]
    exact ⟨rfl, HB2.out⟩
  | true =>
    have HF := Lib.hid (HCK.out.symm.trans (check_rest hR (by simp)))
    clear hR
    go_wp2_with fail
    go_ret
    rw [HF.out]
    exact ⟨rfl, HB2.out⟩
set_option maxRecDepth 20000 in
set_option maxHeartbeats 6400000 in
theorem pcheck14_p8 (h : StA J w d v s) (hok : s.snaps.length ≤ 1000) (hr : Row w a c l) (hn : l.length = n) (hT : T.size ≤ 9223372036854775807) :
    Calls Try.prog 38 #[.agg #[d, v], .agg #[.int .i64 8, .int .i64 o, .int .i64 m, .slice a n c, .string T]] w fun e w' => e = .returned (.int .i64 (checkM s ⟨8, o, m, l, T.data.toList⟩)) ∧ Below w.heap.size w w' := by
  obtain ⟨a1, c1, a2, c2, rfl, rfl, rd, rs⟩ := h.open
  obtain ⟨CK, hCK⟩ : ∃ z, checkM s ⟨8, o, m, l, T.data.toList⟩ = z := ⟨_, rfl⟩
  rw [hCK]
  have HCK := Lib.hid hCK
  clear hCK
  obtain ⟨X2, X3, B3⟩ := two_recsS w #[.slice a1 s.data.length c1, .slice a2 s.snaps.length c2] #[.int .i64 8, .int .i64 o, .int .i64 m, .slice a n c, .string T] 32 46
  obtain ⟨w1, hw1⟩ : ∃ W, ((w.alloc (.cells #[.slice a1 s.data.length c1, .slice a2 s.snaps.length c2] 32)).alloc (.cells #[.int .i64 8, .int .i64 o, .int .i64 m, .slice a n c, .string T] 46)) = W := ⟨_, rfl⟩
  rw [hw1] at X2 X3 B3
  obtain ⟨nd, hnd⟩ : ∃ z, s.data.length = z := ⟨_, rfl⟩
  obtain ⟨ns, hns⟩ : ∃ z, s.snaps.length = z := ⟨_, rfl⟩
  rw [hnd] at X2 hw1 ⊢
  rw [hns] at X2 hw1 rs hok ⊢
  have HX2 := Lib.hid X2
  have HX3 := Lib.hid X3
  have HB3 := Lib.hid B3
  have HRS := Lib.hid (rs.later od_rel B3)
  have hndc : nd ≤ 9223372036854775807 := by have := rd.1; have := rd.2.1; unfold maxLen at this; omega
  have hnsc : ns ≤ 9223372036854775807 := by obtain ⟨_, h1, h2, _⟩ := rs.cap; unfold maxLen at h2; omega
  have HRE := Lib.hid (eright_any o m a n c l T w1 8 (hr.later B3) hn hT)
  have HSP := Lib.hid (fun W (hb : Below w1.heap.size w1 W) => espan_any 8 o m a n c l T W ((hr.later B3).later hb) hn hT)
  clear X2 X3 B3 rd rs hr hn h
  obtain ⟨x0, x1⟩ := HX2.out.c2
  obtain ⟨y0, y1, y2, y3, y4⟩ := HX3.out.c5
  go_enter Try.func38, Try.ntmps38
  go_upto_region 1 with fail
  try rw [hw1]
  clear hw1
  obtain ⟨X, hX⟩ : ∃ X, w.heap.size = X := ⟨_, rfl⟩
  simp only [hX] at HX2 HX3 x0 x1 y0 y1 y2 y3 y4 ⊢
  have HXS := Lib.hid hX
  clear hX
  go_wp2_with fail
  refine HRE.out.mono ?_
  rintro e w2 ⟨rfl, b2⟩
  have HB2 := Lib.hid (HB3.out.trans (b2.mono HB3.out.size))
  have HX22 := Lib.hid (HX2.out.later b2)
  have HX32 := Lib.hid (HX3.out.later b2)
  have HR2 := Lib.hid (HRS.out.later od_rel b2)
  have HSP2 := Lib.hid (HSP.out w2 b2)
  clear b2 x0 x1 y0 y1 y2 y3 y4 HSP HRE HRS
  obtain ⟨x0, x1⟩ := HX22.out.c2
  obtain ⟨y0, y1, y2, y3, y4⟩ := HX32.out.c5
  cases hR : Ev.right ⟨8, o, m, l, T.data.toList⟩ with
  | false =>
    have HF := Lib.hid (HCK.out.symm.trans (check_no hR))
    clear hR
    go_wp2_with fail
    go_ret
    rw [HF.out]
    exact ⟨rfl, HB2.out⟩
  | true =>
    have HF := Lib.hid (HCK.out.symm.trans (check_rest hR (by simp)))
    clear hR
    go_wp2_with fail
    go_ret
    rw [HF.out]
    exact ⟨rfl, HB2.out⟩
set_option maxRecDepth 20000 in
set_option maxHeartbeats 6400000 in
theorem pcheck14_p5 (h : StA J w d v s) (hok : s.snaps.length ≤ 1000) (hr : Row w a c l) (hn : l.length = n) (hT : T.size ≤ 9223372036854775807) :
    Calls Try.prog 38 #[.agg #[d, v], .agg #[.int .i64 5, .int .i64 o, .int .i64 m, .slice a n c, .string T]] w fun e w' => e = .returned (.int .i64 (checkM s ⟨5, o, m, l, T.data.toList⟩)) ∧ Below w.heap.size w w' := by
  obtain ⟨a1, c1, a2, c2, rfl, rfl, rd, rs⟩ := h.open
  obtain ⟨CK, hCK⟩ : ∃ z, checkM s ⟨5, o, m, l, T.data.toList⟩ = z := ⟨_, rfl⟩
  rw [hCK]
  have HCK := Lib.hid hCK
  clear hCK
  obtain ⟨X2, X3, B3⟩ := two_recsS w #[.slice a1 s.data.length c1, .slice a2 s.snaps.length c2] #[.int .i64 5, .int .i64 o, .int .i64 m, .slice a n c, .string T] 32 46
  obtain ⟨w1, hw1⟩ : ∃ W, ((w.alloc (.cells #[.slice a1 s.data.length c1, .slice a2 s.snaps.length c2] 32)).alloc (.cells #[.int .i64 5, .int .i64 o, .int .i64 m, .slice a n c, .string T] 46)) = W := ⟨_, rfl⟩
  rw [hw1] at X2 X3 B3
  obtain ⟨nd, hnd⟩ : ∃ z, s.data.length = z := ⟨_, rfl⟩
  obtain ⟨ns, hns⟩ : ∃ z, s.snaps.length = z := ⟨_, rfl⟩
  rw [hnd] at X2 hw1 ⊢
  rw [hns] at X2 hw1 rs hok ⊢
  have HX2 := Lib.hid X2
  have HX3 := Lib.hid X3
  have HB3 := Lib.hid B3
  have HRS := Lib.hid (rs.later od_rel B3)
  have hndc : nd ≤ 9223372036854775807 := by have := rd.1; have := rd.2.1; unfold maxLen at this; omega
  have hnsc : ns ≤ 9223372036854775807 := by obtain ⟨_, h1, h2, _⟩ := rs.cap; unfold maxLen at h2; omega
  have HRE := Lib.hid (eright_any o m a n c l T w1 5 (hr.later B3) hn hT)
  have HSP := Lib.hid (fun W (hb : Below w1.heap.size w1 W) => espan_any 5 o m a n c l T W ((hr.later B3).later hb) hn hT)
  clear X2 X3 B3 rd rs hr hn h
  obtain ⟨x0, x1⟩ := HX2.out.c2
  obtain ⟨y0, y1, y2, y3, y4⟩ := HX3.out.c5
  go_enter Try.func38, Try.ntmps38
  go_upto_region 1 with fail
  try rw [hw1]
  clear hw1
  obtain ⟨X, hX⟩ : ∃ X, w.heap.size = X := ⟨_, rfl⟩
  simp only [hX] at HX2 HX3 x0 x1 y0 y1 y2 y3 y4 ⊢
  have HXS := Lib.hid hX
  clear hX
  go_wp2_with fail
  refine HRE.out.mono ?_
  rintro e w2 ⟨rfl, b2⟩
  have HB2 := Lib.hid (HB3.out.trans (b2.mono HB3.out.size))
  have HX22 := Lib.hid (HX2.out.later b2)
  have HX32 := Lib.hid (HX3.out.later b2)
  have HR2 := Lib.hid (HRS.out.later od_rel b2)
  have HSP2 := Lib.hid (HSP.out w2 b2)
  clear b2 x0 x1 y0 y1 y2 y3 y4 HSP HRE HRS
  obtain ⟨x0, x1⟩ := HX22.out.c2
  obtain ⟨y0, y1, y2, y3, y4⟩ := HX32.out.c5
  cases hR : Ev.right ⟨5, o, m, l, T.data.toList⟩ with
  | false =>
    have HF := Lib.hid (HCK.out.symm.trans (check_no hR))
    clear hR
    go_wp2_with fail
    go_ret
    rw [HF.out]
    exact ⟨rfl, HB2.out⟩
  | true =>
    have HF := Lib.hid (HCK.out.symm.trans (checkF_snap hR (by simp)))
    try rw [hns] at HF
    obtain ⟨SN, hSN⟩ : ∃ z, s.snaps = z := ⟨_, rfl⟩
    rw [hSN] at HF HR2
    obtain ⟨GK, GF, hg1, hg2⟩ := placeV_tup SN T.data.toList
    rw [← hg2] at HF
    have HGK := Lib.hid hg1
    have HPL := Lib.hid (fun W (hb : Below w2.heap.size w2 W) => places_any a2 ns c2 SN J W (HR2.out.later od_rel hb) hok)
    clear hR hg1 hg2 hSN
    go_upto_region 11 with fail
    clear x0 x1 y0 y1 y2 y3 y4
    -- REG C5
    refine wp_region_tab (L := [cV (.pointer (some ⟨X, 1, none⟩)), cV (.slice a2 ns c2), mpV SN, cV (.pointer (some ⟨X + 1, 4, none⟩)), cV (.string T), cV (.tuple #[.int .i64 GK, .bool GF]), cV (.tuple #[.int .i64 GK, .bool GF]), cV (.int .i64 GK), cV (.bool GF), cV (.int .i64 GK), cV (.bool GF)]) [[(2, none)], [(35, some 0)], [(36, some 1)], [(3, none)], [(38, some 3)], [(37, some 2), (39, some 4)], [(40, some 5)], [(34, some 6)], [(34, some 6)], [(41, some 7)], [(42, some 8)]] 11 62 (by kernel_rfl) rfl rfl (by kernel_rfl) (by kernel_rfl) ?_ ?_
    · show ∀ i, i < 11 → _
      iterate 11 (refine fls ?_ ?_)
      · exact fl0
      · intro a w1 hR hsz hs      -- 0: slot 35
        obtain ⟨h0, _⟩ := hs
        have h0 : a.tmps.getD 2 undef = .pointer (some ⟨X, 0, none⟩) := h0
        refine op_run rfl rfl (v := .pointer (some ⟨X, 1, none⟩)) (w' := w1) ?_ rfl (Below.refl _ _)
        simp [execOp, Act.eval, h0, go_sem]
      · intro a w1 hR hsz hs      -- 1: slot 36
        obtain ⟨h0, _⟩ := hs
        have h0 : a.tmps.getD 35 undef = .pointer (some ⟨X, 1, none⟩) := h0
        obtain ⟨x0, x1⟩ := (HX22.out.later hR).c2
        refine op_run rfl rfl (v := .slice a2 ns c2) (w' := w1) ?_ rfl (Below.refl _ _)
        simp [execOp, Act.eval, h0, x1, go_sem]
      · intro a w1 hR hsz hs      -- 2: slot 37
        obtain ⟨h0, _⟩ := hs
        have h0 : a.tmps.getD 36 undef = .slice a2 ns c2 := h0
        refine op_call rfl rfl (f := 53) (args := #[.slice a2 ns c2]) (by simp [execOp, Act.eval, resolve, h0, go_sem]) ?_
        exact calls_mp (HPL.out w1 hR)
      · intro a w1 hR hsz hs      -- 3: slot 38
        obtain ⟨h0, _⟩ := hs
        have h0 : a.tmps.getD 3 undef = .pointer (some ⟨X + 1, 0, none⟩) := h0
        refine op_run rfl rfl (v := .pointer (some ⟨X + 1, 4, none⟩)) (w' := w1) ?_ rfl (Below.refl _ _)
        simp [execOp, Act.eval, h0, go_sem]
      · intro a w1 hR hsz hs      -- 4: slot 39
        obtain ⟨h0, _⟩ := hs
        have h0 : a.tmps.getD 38 undef = .pointer (some ⟨X + 1, 4, none⟩) := h0
        obtain ⟨y0, y1, y2, y3, y4⟩ := (HX32.out.later hR).c5
        refine op_run rfl rfl (v := .string T) (w' := w1) ?_ rfl (Below.refl _ _)
        simp [execOp, Act.eval, h0, y4, go_sem]
      · intro a w1 hR hsz hs      -- 5: slot 40
        obtain ⟨h0, h1, _⟩ := hs
        have m0 : (mpV SN).p w1 (a.tmps.getD 37 undef) := h0
        have h1 : a.tmps.getD 39 undef = .string T := h1
        obtain ⟨bm, km, em, hm⟩ := (show ∃ b k, a.tmps.getD 37 undef = .map (some b) ∧ SMap w1 b (placeV SN) k from m0)
        have hlk := hm.look Try.underlying69 zero_int hT
        rw [HGK.out] at hlk
        refine op_run rfl rfl (v := .tuple #[.int .i64 GK, .bool GF]) (w' := w1) ?_ rfl (Below.refl _ _)
        simp [execOp, Act.eval, em, h1, hlk, go_sem]
      · intro a w1 hR hsz hs      -- 6: slot 34
        obtain ⟨h0, _⟩ := hs
        have h0 : a.tmps.getD 40 undef = .tuple #[.int .i64 GK, .bool GF] := h0
        refine op_run rfl rfl (v := .tuple #[.int .i64 GK, .bool GF]) (w' := w1) ?_ rfl (Below.refl _ _)
        simp [execOp, Act.eval, h0, go_sem]
      · intro a w1 hR hsz hs      -- 7: slot 41
        obtain ⟨h0, _⟩ := hs
        have h0 : a.tmps.getD 34 undef = .tuple #[.int .i64 GK, .bool GF] := h0
        refine op_run rfl rfl (v := .int .i64 GK) (w' := w1) ?_ rfl (Below.refl _ _)
        simp [execOp, Act.eval, h0, go_sem]
      · intro a w1 hR hsz hs      -- 8: slot 42
        obtain ⟨h0, _⟩ := hs
        have h0 : a.tmps.getD 34 undef = .tuple #[.int .i64 GK, .bool GF] := h0
        refine op_run rfl rfl (v := .bool GF) (w' := w1) ?_ rfl (Below.refl _ _)
        simp [execOp, Act.eval, h0, go_sem]
      · intro a w1 hR hsz hs      -- 9: slot 7
        obtain ⟨h0, _⟩ := hs
        have h0 : a.tmps.getD 41 undef = .int .i64 GK := h0
        refine op_run rfl rfl (v := .int .i64 GK) (w' := w1) ?_ rfl (Below.refl _ _)
        simp [execOp, Act.eval, h0, go_sem]
      · intro a w1 hR hsz hs      -- 10: slot 8
        obtain ⟨h0, _⟩ := hs
        have h0 : a.tmps.getD 42 undef = .bool GF := h0
        refine op_run rfl rfl (v := .bool GF) (w' := w1) ?_ rfl (Below.refl _ _)
        simp [execOp, Act.eval, h0, go_sem]
    intro f w1 hR hv
    have e8 : f 8 = .bool GF := hv 10 _ 8 rfl rfl
    have e7 : f 7 = .int .i64 GK := hv 9 _ 7 rfl rfl
    clear hv
    try simp only [Exit.then]
    simp only [putAll, List.foldl_cons, List.foldl_nil, Option.getD_some, Act.put, List.setIfInBounds_toArray, List.set_cons_succ, List.set_cons_zero, e7, e8]
    have HB9 := Lib.hid (HB2.out.trans (hR.mono HB2.out.size))
    have HX9 := Lib.hid (HX22.out.later hR)
    clear hR e7 e8
    -- END C5
    obtain ⟨z0, z1⟩ := HX9.out.c2
    cases GF with
    | true =>
      rw [if_pos rfl] at HF
      go_wp2_with fail
      go_ret
      rw [HF.out]
      exact ⟨rfl, HB9.out⟩
    | false =>
      rw [if_neg (by decide)] at HF
      by_cases h8 : 8 ≤ ns
      · have hd8 : decide ((ns : Int) ≥ 8) = true := decide_eq_true (by omega)
        rw [if_pos h8] at HF
        go_wp2_with fail
        go_ret
        rw [HF.out]
        exact ⟨rfl, HB9.out⟩
      · have hd8 : decide ((ns : Int) ≥ 8) = false := decide_eq_false (by omega)
        rw [if_neg h8] at HF
        go_wp2_with fail
        go_ret
        rw [HF.out]
        exact ⟨rfl, HB9.out⟩
set_option maxRecDepth 20000 in
set_option maxHeartbeats 6400000 in
theorem pcheck14_p6 (h : StA J w d v s) (hok : s.snaps.length ≤ 1000) (hr : Row w a c l) (hn : l.length = n) (hT : T.size ≤ 9223372036854775807) :
    Calls Try.prog 38 #[.agg #[d, v], .agg #[.int .i64 6, .int .i64 o, .int .i64 m, .slice a n c, .string T]] w fun e w' => e = .returned (.int .i64 (checkM s ⟨6, o, m, l, T.data.toList⟩)) ∧ Below w.heap.size w w' := by
  obtain ⟨a1, c1, a2, c2, rfl, rfl, rd, rs⟩ := h.open
  obtain ⟨CK, hCK⟩ : ∃ z, checkM s ⟨6, o, m, l, T.data.toList⟩ = z := ⟨_, rfl⟩
  rw [hCK]
  have HCK := Lib.hid hCK
  clear hCK
  obtain ⟨X2, X3, B3⟩ := two_recsS w #[.slice a1 s.data.length c1, .slice a2 s.snaps.length c2] #[.int .i64 6, .int .i64 o, .int .i64 m, .slice a n c, .string T] 32 46
  obtain ⟨w1, hw1⟩ : ∃ W, ((w.alloc (.cells #[.slice a1 s.data.length c1, .slice a2 s.snaps.length c2] 32)).alloc (.cells #[.int .i64 6, .int .i64 o, .int .i64 m, .slice a n c, .string T] 46)) = W := ⟨_, rfl⟩
  rw [hw1] at X2 X3 B3
  obtain ⟨nd, hnd⟩ : ∃ z, s.data.length = z := ⟨_, rfl⟩
  obtain ⟨ns, hns⟩ : ∃ z, s.snaps.length = z := ⟨_, rfl⟩
  rw [hnd] at X2 hw1 ⊢
  rw [hns] at X2 hw1 rs hok ⊢
  have HX2 := Lib.hid X2
  have HX3 := Lib.hid X3
  have HB3 := Lib.hid B3
  have HRS := Lib.hid (rs.later od_rel B3)
  have hndc : nd ≤ 9223372036854775807 := by have := rd.1; have := rd.2.1; unfold maxLen at this; omega
  have hnsc : ns ≤ 9223372036854775807 := by obtain ⟨_, h1, h2, _⟩ := rs.cap; unfold maxLen at h2; omega
  have HRE := Lib.hid (eright_any o m a n c l T w1 6 (hr.later B3) hn hT)
  have HSP := Lib.hid (fun W (hb : Below w1.heap.size w1 W) => espan_any 6 o m a n c l T W ((hr.later B3).later hb) hn hT)
  clear X2 X3 B3 rd rs hr hn h
  obtain ⟨x0, x1⟩ := HX2.out.c2
  obtain ⟨y0, y1, y2, y3, y4⟩ := HX3.out.c5
  go_enter Try.func38, Try.ntmps38
  go_upto_region 1 with fail
  try rw [hw1]
  clear hw1
  obtain ⟨X, hX⟩ : ∃ X, w.heap.size = X := ⟨_, rfl⟩
  simp only [hX] at HX2 HX3 x0 x1 y0 y1 y2 y3 y4 ⊢
  have HXS := Lib.hid hX
  clear hX
  go_wp2_with fail
  refine HRE.out.mono ?_
  rintro e w2 ⟨rfl, b2⟩
  have HB2 := Lib.hid (HB3.out.trans (b2.mono HB3.out.size))
  have HX22 := Lib.hid (HX2.out.later b2)
  have HX32 := Lib.hid (HX3.out.later b2)
  have HR2 := Lib.hid (HRS.out.later od_rel b2)
  have HSP2 := Lib.hid (HSP.out w2 b2)
  clear b2 x0 x1 y0 y1 y2 y3 y4 HSP HRE HRS
  obtain ⟨x0, x1⟩ := HX22.out.c2
  obtain ⟨y0, y1, y2, y3, y4⟩ := HX32.out.c5
  cases hR : Ev.right ⟨6, o, m, l, T.data.toList⟩ with
  | false =>
    have HF := Lib.hid (HCK.out.symm.trans (check_no hR))
    clear hR
    go_wp2_with fail
    go_ret
    rw [HF.out]
    exact ⟨rfl, HB2.out⟩
  | true =>
    have HF := Lib.hid (HCK.out.symm.trans (checkF_name hR (by simp)))
    try rw [hns] at HF
    obtain ⟨SN, hSN⟩ : ∃ z, s.snaps = z := ⟨_, rfl⟩
    rw [hSN] at HF HR2
    obtain ⟨GK, GF, hg1, hg2⟩ := placeV_tup SN T.data.toList
    rw [← hg2] at HF
    have HGK := Lib.hid hg1
    have HPL := Lib.hid (fun W (hb : Below w2.heap.size w2 W) => places_any a2 ns c2 SN J W (HR2.out.later od_rel hb) hok)
    clear hR hg1 hg2 hSN
    go_upto_region 18 with fail
    clear x0 x1 y0 y1 y2 y3 y4
    -- REG C6
    refine wp_region_tab (L := [cV (.pointer (some ⟨X, 1, none⟩)), cV (.slice a2 ns c2), mpV SN, cV (.pointer (some ⟨X + 1, 4, none⟩)), cV (.string T), cV (.tuple #[.int .i64 GK, .bool GF]), cV (.tuple #[.int .i64 GK, .bool GF]), cV (.int .i64 GK), cV (.bool GF), cV (.int .i64 GK), cV (.bool GF)]) [[(2, none)], [(52, some 0)], [(53, some 1)], [(3, none)], [(55, some 3)], [(54, some 2), (56, some 4)], [(57, some 5)], [(51, some 6)], [(51, some 6)], [(58, some 7)], [(59, some 8)]] 11 62 (by kernel_rfl) rfl rfl (by kernel_rfl) (by kernel_rfl) ?_ ?_
    · show ∀ i, i < 11 → _
      iterate 11 (refine fls ?_ ?_)
      · exact fl0
      · intro a w1 hR hsz hs      -- 0: slot 52
        obtain ⟨h0, _⟩ := hs
        have h0 : a.tmps.getD 2 undef = .pointer (some ⟨X, 0, none⟩) := h0
        refine op_run rfl rfl (v := .pointer (some ⟨X, 1, none⟩)) (w' := w1) ?_ rfl (Below.refl _ _)
        simp [execOp, Act.eval, h0, go_sem]
      · intro a w1 hR hsz hs      -- 1: slot 53
        obtain ⟨h0, _⟩ := hs
        have h0 : a.tmps.getD 52 undef = .pointer (some ⟨X, 1, none⟩) := h0
        obtain ⟨x0, x1⟩ := (HX22.out.later hR).c2
        refine op_run rfl rfl (v := .slice a2 ns c2) (w' := w1) ?_ rfl (Below.refl _ _)
        simp [execOp, Act.eval, h0, x1, go_sem]
      · intro a w1 hR hsz hs      -- 2: slot 54
        obtain ⟨h0, _⟩ := hs
        have h0 : a.tmps.getD 53 undef = .slice a2 ns c2 := h0
        refine op_call rfl rfl (f := 53) (args := #[.slice a2 ns c2]) (by simp [execOp, Act.eval, resolve, h0, go_sem]) ?_
        exact calls_mp (HPL.out w1 hR)
      · intro a w1 hR hsz hs      -- 3: slot 55
        obtain ⟨h0, _⟩ := hs
        have h0 : a.tmps.getD 3 undef = .pointer (some ⟨X + 1, 0, none⟩) := h0
        refine op_run rfl rfl (v := .pointer (some ⟨X + 1, 4, none⟩)) (w' := w1) ?_ rfl (Below.refl _ _)
        simp [execOp, Act.eval, h0, go_sem]
      · intro a w1 hR hsz hs      -- 4: slot 56
        obtain ⟨h0, _⟩ := hs
        have h0 : a.tmps.getD 55 undef = .pointer (some ⟨X + 1, 4, none⟩) := h0
        obtain ⟨y0, y1, y2, y3, y4⟩ := (HX32.out.later hR).c5
        refine op_run rfl rfl (v := .string T) (w' := w1) ?_ rfl (Below.refl _ _)
        simp [execOp, Act.eval, h0, y4, go_sem]
      · intro a w1 hR hsz hs      -- 5: slot 57
        obtain ⟨h0, h1, _⟩ := hs
        have m0 : (mpV SN).p w1 (a.tmps.getD 54 undef) := h0
        have h1 : a.tmps.getD 56 undef = .string T := h1
        obtain ⟨bm, km, em, hm⟩ := (show ∃ b k, a.tmps.getD 54 undef = .map (some b) ∧ SMap w1 b (placeV SN) k from m0)
        have hlk := hm.look Try.underlying69 zero_int hT
        rw [HGK.out] at hlk
        refine op_run rfl rfl (v := .tuple #[.int .i64 GK, .bool GF]) (w' := w1) ?_ rfl (Below.refl _ _)
        simp [execOp, Act.eval, em, h1, hlk, go_sem]
      · intro a w1 hR hsz hs      -- 6: slot 51
        obtain ⟨h0, _⟩ := hs
        have h0 : a.tmps.getD 57 undef = .tuple #[.int .i64 GK, .bool GF] := h0
        refine op_run rfl rfl (v := .tuple #[.int .i64 GK, .bool GF]) (w' := w1) ?_ rfl (Below.refl _ _)
        simp [execOp, Act.eval, h0, go_sem]
      · intro a w1 hR hsz hs      -- 7: slot 58
        obtain ⟨h0, _⟩ := hs
        have h0 : a.tmps.getD 51 undef = .tuple #[.int .i64 GK, .bool GF] := h0
        refine op_run rfl rfl (v := .int .i64 GK) (w' := w1) ?_ rfl (Below.refl _ _)
        simp [execOp, Act.eval, h0, go_sem]
      · intro a w1 hR hsz hs      -- 8: slot 59
        obtain ⟨h0, _⟩ := hs
        have h0 : a.tmps.getD 51 undef = .tuple #[.int .i64 GK, .bool GF] := h0
        refine op_run rfl rfl (v := .bool GF) (w' := w1) ?_ rfl (Below.refl _ _)
        simp [execOp, Act.eval, h0, go_sem]
      · intro a w1 hR hsz hs      -- 9: slot 9
        obtain ⟨h0, _⟩ := hs
        have h0 : a.tmps.getD 58 undef = .int .i64 GK := h0
        refine op_run rfl rfl (v := .int .i64 GK) (w' := w1) ?_ rfl (Below.refl _ _)
        simp [execOp, Act.eval, h0, go_sem]
      · intro a w1 hR hsz hs      -- 10: slot 10
        obtain ⟨h0, _⟩ := hs
        have h0 : a.tmps.getD 59 undef = .bool GF := h0
        refine op_run rfl rfl (v := .bool GF) (w' := w1) ?_ rfl (Below.refl _ _)
        simp [execOp, Act.eval, h0, go_sem]
    intro f w1 hR hv
    have e8 : f 10 = .bool GF := hv 10 _ 10 rfl rfl
    have e7 : f 9 = .int .i64 GK := hv 9 _ 9 rfl rfl
    clear hv
    try simp only [Exit.then]
    simp only [putAll, List.foldl_cons, List.foldl_nil, Option.getD_some, Act.put, List.setIfInBounds_toArray, List.set_cons_succ, List.set_cons_zero, e7, e8]
    have HB9 := Lib.hid (HB2.out.trans (hR.mono HB2.out.size))
    have HX9 := Lib.hid (HX22.out.later hR)
    clear hR e7 e8
    -- END C6
    obtain ⟨z0, z1⟩ := HX9.out.c2
    cases GF with
    | true =>
      rw [if_pos rfl] at HF
      go_wp2_with fail
      go_ret
      rw [HF.out]
      exact ⟨rfl, HB9.out⟩
    | false =>
      rw [if_neg (by decide)] at HF
      go_wp2_with fail
      go_ret
      rw [HF.out]
      exact ⟨rfl, HB9.out⟩
set_option maxRecDepth 20000 in
set_option maxHeartbeats 6400000 in
theorem pcheck14_p7 (h : StA J w d v s) (hok : s.snaps.length ≤ 1000) (hr : Row w a c l) (hn : l.length = n) (hT : T.size ≤ 9223372036854775807) :
    Calls Try.prog 38 #[.agg #[d, v], .agg #[.int .i64 7, .int .i64 o, .int .i64 m, .slice a n c, .string T]] w fun e w' => e = .returned (.int .i64 (checkM s ⟨7, o, m, l, T.data.toList⟩)) ∧ Below w.heap.size w w' := by
  obtain ⟨a1, c1, a2, c2, rfl, rfl, rd, rs⟩ := h.open
  obtain ⟨CK, hCK⟩ : ∃ z, checkM s ⟨7, o, m, l, T.data.toList⟩ = z := ⟨_, rfl⟩
  rw [hCK]
  have HCK := Lib.hid hCK
  clear hCK
  obtain ⟨X2, X3, B3⟩ := two_recsS w #[.slice a1 s.data.length c1, .slice a2 s.snaps.length c2] #[.int .i64 7, .int .i64 o, .int .i64 m, .slice a n c, .string T] 32 46
  obtain ⟨w1, hw1⟩ : ∃ W, ((w.alloc (.cells #[.slice a1 s.data.length c1, .slice a2 s.snaps.length c2] 32)).alloc (.cells #[.int .i64 7, .int .i64 o, .int .i64 m, .slice a n c, .string T] 46)) = W := ⟨_, rfl⟩
  rw [hw1] at X2 X3 B3
  obtain ⟨nd, hnd⟩ : ∃ z, s.data.length = z := ⟨_, rfl⟩
  obtain ⟨ns, hns⟩ : ∃ z, s.snaps.length = z := ⟨_, rfl⟩
  rw [hnd] at X2 hw1 ⊢
  rw [hns] at X2 hw1 rs hok ⊢
  have HX2 := Lib.hid X2
  have HX3 := Lib.hid X3
  have HB3 := Lib.hid B3
  have HRS := Lib.hid (rs.later od_rel B3)
  have hndc : nd ≤ 9223372036854775807 := by have := rd.1; have := rd.2.1; unfold maxLen at this; omega
  have hnsc : ns ≤ 9223372036854775807 := by obtain ⟨_, h1, h2, _⟩ := rs.cap; unfold maxLen at h2; omega
  have HRE := Lib.hid (eright_any o m a n c l T w1 7 (hr.later B3) hn hT)
  have HSP := Lib.hid (fun W (hb : Below w1.heap.size w1 W) => espan_any 7 o m a n c l T W ((hr.later B3).later hb) hn hT)
  clear X2 X3 B3 rd rs hr hn h
  obtain ⟨x0, x1⟩ := HX2.out.c2
  obtain ⟨y0, y1, y2, y3, y4⟩ := HX3.out.c5
  go_enter Try.func38, Try.ntmps38
  go_upto_region 1 with fail
  try rw [hw1]
  clear hw1
  obtain ⟨X, hX⟩ : ∃ X, w.heap.size = X := ⟨_, rfl⟩
  simp only [hX] at HX2 HX3 x0 x1 y0 y1 y2 y3 y4 ⊢
  have HXS := Lib.hid hX
  clear hX
  go_wp2_with fail
  refine HRE.out.mono ?_
  rintro e w2 ⟨rfl, b2⟩
  have HB2 := Lib.hid (HB3.out.trans (b2.mono HB3.out.size))
  have HX22 := Lib.hid (HX2.out.later b2)
  have HX32 := Lib.hid (HX3.out.later b2)
  have HR2 := Lib.hid (HRS.out.later od_rel b2)
  have HSP2 := Lib.hid (HSP.out w2 b2)
  clear b2 x0 x1 y0 y1 y2 y3 y4 HSP HRE HRS
  obtain ⟨x0, x1⟩ := HX22.out.c2
  obtain ⟨y0, y1, y2, y3, y4⟩ := HX32.out.c5
  cases hR : Ev.right ⟨7, o, m, l, T.data.toList⟩ with
  | false =>
    have HF := Lib.hid (HCK.out.symm.trans (check_no hR))
    clear hR
    go_wp2_with fail
    go_ret
    rw [HF.out]
    exact ⟨rfl, HB2.out⟩
  | true =>
    have HF := Lib.hid (HCK.out.symm.trans (checkF_name hR (by simp)))
    try rw [hns] at HF
    obtain ⟨SN, hSN⟩ : ∃ z, s.snaps = z := ⟨_, rfl⟩
    rw [hSN] at HF HR2
    obtain ⟨GK, GF, hg1, hg2⟩ := placeV_tup SN T.data.toList
    rw [← hg2] at HF
    have HGK := Lib.hid hg1
    have HPL := Lib.hid (fun W (hb : Below w2.heap.size w2 W) => places_any a2 ns c2 SN J W (HR2.out.later od_rel hb) hok)
    clear hR hg1 hg2 hSN
    go_upto_region 18 with fail
    clear x0 x1 y0 y1 y2 y3 y4
    -- REG C7
    refine wp_region_tab (L := [cV (.pointer (some ⟨X, 1, none⟩)), cV (.slice a2 ns c2), mpV SN, cV (.pointer (some ⟨X + 1, 4, none⟩)), cV (.string T), cV (.tuple #[.int .i64 GK, .bool GF]), cV (.tuple #[.int .i64 GK, .bool GF]), cV (.int .i64 GK), cV (.bool GF), cV (.int .i64 GK), cV (.bool GF)]) [[(2, none)], [(52, some 0)], [(53, some 1)], [(3, none)], [(55, some 3)], [(54, some 2), (56, some 4)], [(57, some 5)], [(51, some 6)], [(51, some 6)], [(58, some 7)], [(59, some 8)]] 11 62 (by kernel_rfl) rfl rfl (by kernel_rfl) (by kernel_rfl) ?_ ?_
    · show ∀ i, i < 11 → _
      iterate 11 (refine fls ?_ ?_)
      · exact fl0
      · intro a w1 hR hsz hs      -- 0: slot 52
        obtain ⟨h0, _⟩ := hs
        have h0 : a.tmps.getD 2 undef = .pointer (some ⟨X, 0, none⟩) := h0
        refine op_run rfl rfl (v := .pointer (some ⟨X, 1, none⟩)) (w' := w1) ?_ rfl (Below.refl _ _)
        simp [execOp, Act.eval, h0, go_sem]
      · intro a w1 hR hsz hs      -- 1: slot 53
        obtain ⟨h0, _⟩ := hs
        have h0 : a.tmps.getD 52 undef = .pointer (some ⟨X, 1, none⟩) := h0
        obtain ⟨x0, x1⟩ := (HX22.out.later hR).c2
        refine op_run rfl rfl (v := .slice a2 ns c2) (w' := w1) ?_ rfl (Below.refl _ _)
        simp [execOp, Act.eval, h0, x1, go_sem]
      · intro a w1 hR hsz hs      -- 2: slot 54
        obtain ⟨h0, _⟩ := hs
        have h0 : a.tmps.getD 53 undef = .slice a2 ns c2 := h0
        refine op_call rfl rfl (f := 53) (args := #[.slice a2 ns c2]) (by simp [execOp, Act.eval, resolve, h0, go_sem]) ?_
        exact calls_mp (HPL.out w1 hR)
      · intro a w1 hR hsz hs      -- 3: slot 55
        obtain ⟨h0, _⟩ := hs
        have h0 : a.tmps.getD 3 undef = .pointer (some ⟨X + 1, 0, none⟩) := h0
        refine op_run rfl rfl (v := .pointer (some ⟨X + 1, 4, none⟩)) (w' := w1) ?_ rfl (Below.refl _ _)
        simp [execOp, Act.eval, h0, go_sem]
      · intro a w1 hR hsz hs      -- 4: slot 56
        obtain ⟨h0, _⟩ := hs
        have h0 : a.tmps.getD 55 undef = .pointer (some ⟨X + 1, 4, none⟩) := h0
        obtain ⟨y0, y1, y2, y3, y4⟩ := (HX32.out.later hR).c5
        refine op_run rfl rfl (v := .string T) (w' := w1) ?_ rfl (Below.refl _ _)
        simp [execOp, Act.eval, h0, y4, go_sem]
      · intro a w1 hR hsz hs      -- 5: slot 57
        obtain ⟨h0, h1, _⟩ := hs
        have m0 : (mpV SN).p w1 (a.tmps.getD 54 undef) := h0
        have h1 : a.tmps.getD 56 undef = .string T := h1
        obtain ⟨bm, km, em, hm⟩ := (show ∃ b k, a.tmps.getD 54 undef = .map (some b) ∧ SMap w1 b (placeV SN) k from m0)
        have hlk := hm.look Try.underlying69 zero_int hT
        rw [HGK.out] at hlk
        refine op_run rfl rfl (v := .tuple #[.int .i64 GK, .bool GF]) (w' := w1) ?_ rfl (Below.refl _ _)
        simp [execOp, Act.eval, em, h1, hlk, go_sem]
      · intro a w1 hR hsz hs      -- 6: slot 51
        obtain ⟨h0, _⟩ := hs
        have h0 : a.tmps.getD 57 undef = .tuple #[.int .i64 GK, .bool GF] := h0
        refine op_run rfl rfl (v := .tuple #[.int .i64 GK, .bool GF]) (w' := w1) ?_ rfl (Below.refl _ _)
        simp [execOp, Act.eval, h0, go_sem]
      · intro a w1 hR hsz hs      -- 7: slot 58
        obtain ⟨h0, _⟩ := hs
        have h0 : a.tmps.getD 51 undef = .tuple #[.int .i64 GK, .bool GF] := h0
        refine op_run rfl rfl (v := .int .i64 GK) (w' := w1) ?_ rfl (Below.refl _ _)
        simp [execOp, Act.eval, h0, go_sem]
      · intro a w1 hR hsz hs      -- 8: slot 59
        obtain ⟨h0, _⟩ := hs
        have h0 : a.tmps.getD 51 undef = .tuple #[.int .i64 GK, .bool GF] := h0
        refine op_run rfl rfl (v := .bool GF) (w' := w1) ?_ rfl (Below.refl _ _)
        simp [execOp, Act.eval, h0, go_sem]
      · intro a w1 hR hsz hs      -- 9: slot 9
        obtain ⟨h0, _⟩ := hs
        have h0 : a.tmps.getD 58 undef = .int .i64 GK := h0
        refine op_run rfl rfl (v := .int .i64 GK) (w' := w1) ?_ rfl (Below.refl _ _)
        simp [execOp, Act.eval, h0, go_sem]
      · intro a w1 hR hsz hs      -- 10: slot 10
        obtain ⟨h0, _⟩ := hs
        have h0 : a.tmps.getD 59 undef = .bool GF := h0
        refine op_run rfl rfl (v := .bool GF) (w' := w1) ?_ rfl (Below.refl _ _)
        simp [execOp, Act.eval, h0, go_sem]
    intro f w1 hR hv
    have e8 : f 10 = .bool GF := hv 10 _ 10 rfl rfl
    have e7 : f 9 = .int .i64 GK := hv 9 _ 9 rfl rfl
    clear hv
    try simp only [Exit.then]
    simp only [putAll, List.foldl_cons, List.foldl_nil, Option.getD_some, Act.put, List.setIfInBounds_toArray, List.set_cons_succ, List.set_cons_zero, e7, e8]
    have HB9 := Lib.hid (HB2.out.trans (hR.mono HB2.out.size))
    have HX9 := Lib.hid (HX22.out.later hR)
    clear hR e7 e8
    -- END C7
    obtain ⟨z0, z1⟩ := HX9.out.c2
    cases GF with
    | true =>
      rw [if_pos rfl] at HF
      go_wp2_with fail
      go_ret
      rw [HF.out]
      exact ⟨rfl, HB9.out⟩
    | false =>
      rw [if_neg (by decide)] at HF
      go_wp2_with fail
      go_ret
      rw [HF.out]
      exact ⟨rfl, HB9.out⟩
set_option maxRecDepth 20000 in
set_option maxHeartbeats 6400000 in
theorem pcheck14_p0 (k : Int) (h : StA J w d v s) (hok : s.snaps.length ≤ 1000) (hr : Row w a c l) (hn : l.length = n) (hT : T.size ≤ 9223372036854775807) (hk : k < 1 ∨ 8 < k) :
    Calls Try.prog 38 #[.agg #[d, v], .agg #[.int .i64 k, .int .i64 o, .int .i64 m, .slice a n c, .string T]] w fun e w' => e = .returned (.int .i64 (checkM s ⟨k, o, m, l, T.data.toList⟩)) ∧ Below w.heap.size w w' := by
  obtain ⟨a1, c1, a2, c2, rfl, rfl, rd, rs⟩ := h.open
  obtain ⟨CK, hCK⟩ : ∃ z, checkM s ⟨k, o, m, l, T.data.toList⟩ = z := ⟨_, rfl⟩
  rw [hCK]
  have HCK := Lib.hid hCK
  clear hCK
  obtain ⟨X2, X3, B3⟩ := two_recsS w #[.slice a1 s.data.length c1, .slice a2 s.snaps.length c2] #[.int .i64 k, .int .i64 o, .int .i64 m, .slice a n c, .string T] 32 46
  obtain ⟨w1, hw1⟩ : ∃ W, ((w.alloc (.cells #[.slice a1 s.data.length c1, .slice a2 s.snaps.length c2] 32)).alloc (.cells #[.int .i64 k, .int .i64 o, .int .i64 m, .slice a n c, .string T] 46)) = W := ⟨_, rfl⟩
  rw [hw1] at X2 X3 B3
  obtain ⟨nd, hnd⟩ : ∃ z, s.data.length = z := ⟨_, rfl⟩
  obtain ⟨ns, hns⟩ : ∃ z, s.snaps.length = z := ⟨_, rfl⟩
  rw [hnd] at X2 hw1 ⊢
  rw [hns] at X2 hw1 rs hok ⊢
  have HX2 := Lib.hid X2
  have HX3 := Lib.hid X3
  have HB3 := Lib.hid B3
  have HRS := Lib.hid (rs.later od_rel B3)
  have hndc : nd ≤ 9223372036854775807 := by have := rd.1; have := rd.2.1; unfold maxLen at this; omega
  have hnsc : ns ≤ 9223372036854775807 := by obtain ⟨_, h1, h2, _⟩ := rs.cap; unfold maxLen at h2; omega
  have HRE := Lib.hid (eright_any o m a n c l T w1 k (hr.later B3) hn hT)
  have HSP := Lib.hid (fun W (hb : Below w1.heap.size w1 W) => espan_any k o m a n c l T W ((hr.later B3).later hb) hn hT)
  clear X2 X3 B3 rd rs hr hn h
  obtain ⟨x0, x1⟩ := HX2.out.c2
  obtain ⟨y0, y1, y2, y3, y4⟩ := HX3.out.c5
  go_enter Try.func38, Try.ntmps38
  go_upto_region 1 with fail
  try rw [hw1]
  clear hw1
  obtain ⟨X, hX⟩ : ∃ X, w.heap.size = X := ⟨_, rfl⟩
  simp only [hX] at HX2 HX3 x0 x1 y0 y1 y2 y3 y4 ⊢
  have HXS := Lib.hid hX
  clear hX
  go_wp2_with fail
  refine HRE.out.mono ?_
  rintro e w2 ⟨rfl, b2⟩
  have HB2 := Lib.hid (HB3.out.trans (b2.mono HB3.out.size))
  have HX22 := Lib.hid (HX2.out.later b2)
  have HX32 := Lib.hid (HX3.out.later b2)
  have HR2 := Lib.hid (HRS.out.later od_rel b2)
  have HSP2 := Lib.hid (HSP.out w2 b2)
  clear b2 x0 x1 y0 y1 y2 y3 y4 HSP HRE HRS
  obtain ⟨x0, x1⟩ := HX22.out.c2
  obtain ⟨y0, y1, y2, y3, y4⟩ := HX32.out.c5
  cases hR : Ev.right ⟨k, o, m, l, T.data.toList⟩ with
  | false =>
    have HF := Lib.hid (HCK.out.symm.trans (check_no hR))
    clear hR
    go_wp2_with fail
    go_ret
    rw [HF.out]
    exact ⟨rfl, HB2.out⟩
  | true =>
    have := right_kind hR
    exfalso
    simp only at this
    omega
end
theorem pcheck14_b (d v : Value) (s : Sx) (k o m : Int) (a : Option Addr) (n c : Nat) (l : List UInt8) (T : ByteArray) (J : Nat → Prop) (w : World) (h : StA J w d v s) (hok : s.snaps.length ≤ 1000) (hr : Row w a c l) (hn : l.length = n) (hT : T.size ≤ 9223372036854775807) :
    Calls Try.prog 38 #[.agg #[d, v], .agg #[.int .i64 k, .int .i64 o, .int .i64 m, .slice a n c, .string T]] w fun e w' => e = .returned (.int .i64 (checkM s ⟨k, o, m, l, T.data.toList⟩)) ∧ Below w.heap.size w w' := by
  rcases (show k = 1 ∨ k = 2 ∨ k = 3 ∨ k = 4 ∨ k = 5 ∨ k = 6 ∨ k = 7 ∨ k = 8 ∨ (k < 1 ∨ 8 < k) by omega) with rfl | rfl | rfl | rfl | rfl | rfl | rfl | rfl | hk
  · exact pcheck14_p1 d v s o m a n c l T J w h hok hr hn hT
  · exact pcheck14_p2 d v s o m a n c l T J w h hok hr hn hT
  · exact pcheck14_p3 d v s o m a n c l T J w h hok hr hn hT
  · exact pcheck14_p4 d v s o m a n c l T J w h hok hr hn hT
  · exact pcheck14_p5 d v s o m a n c l T J w h hok hr hn hT
  · exact pcheck14_p6 d v s o m a n c l T J w h hok hr hn hT
  · exact pcheck14_p7 d v s o m a n c l T J w h hok hr hn hT
  · exact pcheck14_p8 d v s o m a n c l T J w h hok hr hn hT
  · exact pcheck14_p0 d v s o m a n c l T J w k h hok hr hn hT hk
theorem pcheck14_any (d v : Value) (s : Sx) (k o m : Int) (a : Option Addr) (n c : Nat) (l : List UInt8) (T : ByteArray) (J : Nat → Prop) (w : World) (h : StA J w d v s) (hok : StOk s) (hr : Row w a c l) (hn : l.length = n) (hT : T.size ≤ 9223372036854775807) :
    Calls Try.prog 38 #[.agg #[d, v], .agg #[.int .i64 k, .int .i64 o, .int .i64 m, .slice a n c, .string T]] w fun e w' => e = .returned (.int .i64 (checkM s ⟨k, o, m, l, T.data.toList⟩)) ∧ Below w.heap.size w w' :=
  pcheck14_b d v s k o m a n c l T J w h (by have := hok.many; omega) hr hn hT
end Go.Proofs.Ytbpddcmehjgleaa
