/- The store: a plain model of it, and how it lies in memory. -/
import Derived.Test.YtgjdabneodkmpaaSl
import Derived.Maps.OwnSet
import Derived.Maps.AppendAt
import Derived.Maps.RangeWalk
import Derived.DeepKeys5
namespace Go.Proofs.Ytgjdabneodkmpaa
open Go.RowKit
set_option linter.unusedVariables false

/-! ### keys -/
structure K4 where
  a : Int
  b : Int
  c : Int
  d : Int
deriving DecidableEq
def K4.ok (k : K4) : Prop := (Lit.int .i64 k.a).wf = true ∧ (Lit.int .i64 k.b).wf = true ∧ (Lit.int .i64 k.c).wf = true ∧ (Lit.int .i64 k.d).wf = true
def kv (k : K4) : Value := .agg #[.int .i64 k.a, .int .i64 k.b, .int .i64 k.c, .int .i64 k.d]
theorem kv_inj {k k' : K4} (h : kv k = kv k') : k = k' := by
  cases k; cases k'; simp [kv] at h; simp [h]

theorem keyed : Go.Maps.Keyed Try.prog 27 := Go.Maps.Keyed.of_law (deep_law_gate (by kernel_rfl) (of_decide_eq_true (by kernel_rfl)) (of_decide_eq_true (by kernel_rfl)) (by kernel_rfl) (by kernel_rfl))
def kl (k : K4) : Lit := .string (keyBytes [.int .i64 k.a, .int .i64 k.b, .int .i64 k.c, .int .i64 k.d])
theorem keyType_key : Try.prog.keyType 27 = true := by kernel_rfl
theorem cells_key : Try.prog.cellsOf 27 = 4 := by kernel_rfl
theorem cells_i : Try.prog.cellsOf 3 = 1 := by kernel_rfl
theorem keyLits_int {n : Int} (h : (Lit.int .i64 n).wf = true) (d : Nat) : Try.prog.keyLits (d + 1) 3 [.int .i64 n] = some [.int .i64 n] := by
  unfold Program.keyLits
  rw [Try.underlying3]
  simp [h]
theorem keyOf_kv {k : K4} (h : k.ok) : keyOf Try.prog 27 (kv k) = some (kl k) := by
  obtain ⟨h1, h2, h3, h4⟩ := h
  unfold keyOf
  rw [Try.underlying27]
  simp only [keyType_key, Bool.true_and]
  have hf : (kv k).formed Try.prog 27 = true := by
    unfold Value.formed kv
    simp only [Try.underlying27, cells_key]
    rfl
  rw [if_pos hf]
  have hs : Try.prog.types.size = Try.prog.types.size - 1 + 1 := by
    have : 0 < Try.prog.types.size := of_decide_eq_true (by kernel_rfl)
    omega
  rw [hs]
  unfold Program.keyLits
  rw [Try.underlying27]
  simp only [kv, Value.cells, cells_key, List.length_cons, List.length_nil]
  rw [if_pos (by simp)]
  simp only [List.mapM_cons, List.mapM_nil, cells_i, List.drop_zero, List.drop_succ_cons, List.take_succ_cons, List.take_zero]
  rw [keyLits_int h1, keyLits_int h2, keyLits_int h3, keyLits_int h4]
  rfl
theorem kl_inj {k k' : K4} (h : k.ok) (h' : k'.ok) (e : kl k = kl k') : k = k' := by
  have h1 := keyOf_kv h
  have h2 := keyOf_kv h'
  rw [← e] at h2
  exact kv_inj (keyed.inj h1 h2)

/-! ### maps from keys to blocks -/
def ptrE (v : Value) : Option (DataW Value × List MemPlace) := match v with
  | .pointer p => some (.held (.pointer p), [])
  | _ => none
theorem ptrE_mk (p : Option Addr) : ptrE (.pointer p) = some (.held (.pointer p), []) := rfl
def ptrV (x : Option Nat) : Value := .pointer (x.map fun b => ⟨b, 0, .none⟩)
def upd {α : Type} (f : K4 → α) (k : K4) (v : α) : K4 → α := fun x => if x = k then v else f x
theorem upd_same {α : Type} (f : K4 → α) (k : K4) (v : α) : upd f k v k = v := by simp [upd]
theorem upd_other {α : Type} (f : K4 → α) {k k' : K4} (v : α) (h : k' ≠ k) : upd f k v k' = f k' := by simp [upd, h]
theorem upd_self {α : Type} (f : K4 → α) (k : K4) : upd f k (f k) = f := by funext x; unfold upd; split <;> simp_all

def mapBlock : Value → Option Nat
  | .map b => b
  | _ => .none
/-- The datum D holds just the keys that pm names, each with its block. -/
structure PD (D : DataW Value) (pm : K4 → Option Nat) (n : Nat) : Prop where
  tidy : Go.Maps.Tidy D
  at_ : ∀ k, k.ok → D.atKey (kl k) (.held (.pointer .none)) = .held (ptrV (pm k))
  has : ∀ k, k.ok → Go.Maps.has D (kl k) = (pm k).isSome
  size : Go.Maps.size D = n

/-- The map value mv is the map pm, of n entries. -/
def PMap (w : World) (mv : Value) (pm : K4 → Option Nat) (n : Nat) : Prop :=
  ∃ D, PD D pm n ∧ ((mv = .map .none ∧ D = .map []) ∨ ∃ b, mv = .map (some b) ∧ w.ownsMap Try.prog 27 ptrE b n D)

theorem PMap.nil (w : World) : PMap w (.map .none) (fun _ => .none) 0 :=
  ⟨.map [], ⟨Go.Maps.tidy_empty, fun k _ => rfl, fun k _ => rfl, rfl⟩, .inl ⟨rfl, rfl⟩⟩
theorem PMap.keep {w w' : World} {mv : Value} {pm : K4 → Option Nat} {n : Nat} (h : PMap w mv pm n) (hb : ∀ b, mv = .map (some b) → b < w.heap.size → w'.heap[b]? = w.heap[b]?) : PMap w' mv pm n := by
  obtain ⟨D, hD, h1⟩ := h
  refine ⟨D, hD, ?_⟩
  rcases h1 with h1 | ⟨b, hv, ho⟩
  · exact .inl h1
  · refine .inr ⟨b, hv, ?_⟩
    have hlt := ho.lt
    obtain ⟨es, clock, h2, r⟩ := ho
    exact ⟨es, clock, by rw [hb b hv hlt]; exact h2, r⟩
theorem PMap.lt {w : World} {b : Nat} {pm : K4 → Option Nat} {n : Nat} (h : PMap w (.map (some b)) pm n) : b < w.heap.size := by
  obtain ⟨D, hD, h1⟩ := h
  rcases h1 with ⟨h1, _⟩ | ⟨b2, hv, ho⟩
  · cases h1
  · cases hv; exact ho.lt
theorem PMap.nil_inv {w : World} {pm : K4 → Option Nat} {n : Nat} (h : PMap w (.map .none) pm n) : (∀ k, k.ok → pm k = .none) ∧ n = 0 := by
  obtain ⟨D, hD, h1⟩ := h
  rcases h1 with ⟨_, h1⟩ | ⟨b2, hv, ho⟩
  · subst h1
    refine ⟨fun k hk => ?_, hD.size.symm⟩
    have := hD.has k hk
    cases hp : pm k with
    | none => rfl
    | some x => rw [hp] at this; cases this
  · cases hv

section
variable {w : World} {pm : K4 → Option Nat} {n : Nat} {mT eT : TypeId}
/-- 'm[k]'. -/
theorem PMap.look {mv : Value} (h : PMap w mv pm n) (ht : Try.prog.underlying mT = some (.map 27 eT)) (hz : ∀ w, (zeroValue eT).run Try.prog w = .ok (.pointer .none) w) {k : K4} (hk : k.ok) :
    (Instr.lookup mT mv (kv k) false).run Try.prog w = .ok (ptrV (pm k)) w := by
  obtain ⟨D, hD, h1⟩ := h
  rcases h1 with ⟨rfl, rfl⟩ | ⟨b, rfl, ho⟩
  · have := hD.has k hk
    cases hp : pm k with
    | none => exact Go.Maps.look_nil (w := w) false keyed ht (hz w) (keyOf_kv hk)
    | some x => rw [hp] at this; cases this
  · obtain ⟨v, ps, hrun, hv⟩ := ho.lookup keyed ht (hz w) (ptrE_mk .none) (keyOf_kv hk)
    rw [hD.at_ k hk] at hv
    have : v = ptrV (pm k) := by
      unfold ptrE at hv
      split at hv
      · simp at hv; exact hv.1
      · cases hv
    rw [this] at hrun; exact hrun
/-- 'len(m)'. -/
theorem PMap.len {mv : Value} (h : PMap w mv pm n) (ht : Try.prog.underlying mT = some (.map 27 eT)) (ty : TypeId) : (Builtin.len_ #[mT] ty #[mv]).run Try.prog w = .ok (.int .i64 n) w := by
  obtain ⟨D, hD, h1⟩ := h
  rcases h1 with ⟨rfl, rfl⟩ | ⟨b, rfl, ho⟩
  · rw [Go.Maps.len_nil ht ty, ← hD.size]; rfl
  · rw [ho.len ht ty, hD.size]
/-- 'm[k] = p'. -/
theorem PMap.put {b : Nat} (h : PMap w (.map (some b)) pm n) (ht : Try.prog.underlying mT = some (.map 27 eT)) (hn : n < maxLen) {k : K4} (hk : k.ok) (x : Nat) :
    ∃ w', (Instr.mapUpdate mT (.map (some b)) (kv k) (ptrV (some x))).run Try.prog w = .ok () w' ∧ PMap w' (.map (some b)) (upd pm k (some x)) (if (pm k).isSome then n else n + 1) ∧ w.grownBy w' (some b) := by
  obtain ⟨D, hD, h1⟩ := h
  rcases h1 with ⟨h1, _⟩ | ⟨b2, hv, ho⟩
  · cases h1
  · cases hv
    obtain ⟨w', hrun, ho', hg⟩ := ho.update keyed ht hn (keyOf_kv hk) (ptrE_mk (some ⟨x, 0, .none⟩))
    have hsz : Go.Maps.size (D.put (kl k) (.held (ptrV (some x)))) = if (pm k).isSome then n else n + 1 := by
      rw [Go.Maps.size_put hD.tidy, hD.has k hk, hD.size]
    refine ⟨w', hrun, ⟨D.put (kl k) (.held (ptrV (some x))), ⟨hD.tidy.put (keyed.key (keyOf_kv hk)) _, fun k' hk' => ?_, fun k' hk' => ?_, hsz⟩, .inr ⟨b, rfl, ?_⟩⟩, hg⟩
    · by_cases e : k' = k
      · subst e; rw [upd_same]; exact Go.Maps.atKey_put_same hD.tidy.isMap (keyed.key (keyOf_kv hk)) _ _
      · rw [upd_other _ _ e, ← hD.at_ k' hk']
        exact Go.Maps.atKey_put_other (fun e2 => e (kl_inj hk' hk e2)) _ _
    · by_cases e : k' = k
      · subst e; rw [upd_same]; exact Go.Maps.has_put_same hD.tidy.isMap (keyed.key (keyOf_kv hk)) _
      · rw [upd_other _ _ e, ← hD.has k' hk']
        exact Go.Maps.has_put_other (fun e2 => e (kl_inj hk' hk e2)) _
    · obtain ⟨es, clock, h2, F, hs, hDe⟩ := ho'
      refine ⟨es, clock, h2, F, ?_, hDe⟩
      rw [← hsz]
      have : Go.Maps.size (DataW.put D (kl k) (.held (ptrV (some x)))) = es.size := by
        rw [show DataW.put D (kl k) (.held (ptrV (some x))) = _ from hDe]; simp [Go.Maps.size, length_sorted]
      omega
/-- 'delete(m, k)'. -/
theorem PMap.drop {mv : Value} (h : PMap w mv pm n) (ht : Try.prog.underlying mT = some (.map 27 eT)) {k : K4} (hk : k.ok) (ty : TypeId) :
    ∃ w', (Builtin.delete_ #[mT, 27] ty #[mv, kv k]).run Try.prog w = .ok (.tuple #[]) w' ∧ PMap w' mv (upd pm k .none) (if (pm k).isSome then n - 1 else n) ∧ w.grownBy w' (mapBlock mv) := by
  obtain ⟨D, hD, h1⟩ := h
  rcases h1 with ⟨rfl, rfl⟩ | ⟨b, rfl, ho⟩
  · have hp : pm k = .none := by
      have := hD.has k hk
      cases hp : pm k with
      | none => rfl
      | some x => rw [hp] at this; cases this
    refine ⟨w, Go.Maps.drop_nil keyed ht (keyOf_kv hk) ty, ⟨.map [], ?_, .inl ⟨rfl, rfl⟩⟩, ⟨rfl, rfl, rfl, Nat.le_refl _, fun _ _ _ => rfl⟩⟩
    have e : upd pm k .none = pm := by rw [← hp, upd_self]
    rw [e, hp]
    exact hD
  · obtain ⟨w', hrun, ho', hg⟩ := ho.drop keyed ht (keyOf_kv hk) ty
    have hsz : Go.Maps.size (D.del (kl k)) = if (pm k).isSome then n - 1 else n := by
      have := Go.Maps.size_del (k := kl k) hD.tidy
      rw [hD.has k hk, hD.size] at this
      split <;> simp_all <;> omega
    refine ⟨w', hrun, ⟨D.del (kl k), ⟨hD.tidy.del _, fun k' hk' => ?_, fun k' hk' => ?_, hsz⟩, .inr ⟨b, rfl, ?_⟩⟩, hg.grown⟩
    · by_cases e : k' = k
      · subst e; rw [upd_same]; exact Go.Maps.atKey_del_same _
      · rw [upd_other _ _ e, ← hD.at_ k' hk']
        exact Go.Maps.atKey_del_other (fun e2 => e (kl_inj hk' hk e2)) _
    · by_cases e : k' = k
      · subst e; rw [upd_same]; exact Go.Maps.has_del_same
      · rw [upd_other _ _ e, ← hD.has k' hk']
        exact Go.Maps.has_del_other (fun e2 => e (kl_inj hk' hk e2))
    · obtain ⟨es, clock, h2, F, hs, hDe⟩ := ho'
      refine ⟨es, clock, h2, F, ?_, hDe⟩
      rw [← hsz, hDe]
      simp [Go.Maps.size, length_sorted]
end
theorem PMap.made (w : World) : PMap (w.alloc (.map #[] 0)) (.map (some w.heap.size)) (fun _ => .none) 0 :=
  ⟨.map [], ⟨Go.Maps.tidy_empty, fun k _ => rfl, fun k _ => rfl, rfl⟩, .inr ⟨_, rfl, World.ownsMap_made w _ _ _⟩⟩

end Go.Proofs.Ytgjdabneodkmpaa
