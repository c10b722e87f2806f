/- Contracts of the store's small functions. -/
import Derived.Test.YtgjdabneodkmpaaStM
import Derived.Test.YtgjdabneodkmpaaCl
import Derived.BigQuiet
import Derived.Deep.RegionWith
import Derived.Lib.SliceRun
import Derived.Laws.Small
import Derived.Lib.AppendZeros
import Derived.Lib.AppendZerosOnto
import Derived.Shelf.SlMaps.Clone
namespace Go.Proofs.Ytgjdabneodkmpaa
open Go.RowKit
set_option linter.unusedVariables false

def heldI (n lo hi : Int) : Int := min (max n lo) hi
theorem held_any (n lo hi : Int) (w : World) :
    Calls Try.prog 32 #[.int .i64 n, .int .i64 lo, .int .i64 hi] w fun e w' => e = .returned (.int .i64 (heldI n lo hi)) ∧ w = w' := by
  go_enter Try.func32, Try.ntmps32
  go_wp2
  all_goals (go_ret; refine ⟨?_, rfl⟩; simp [heldI, Int.min_def, Int.max_def]; repeat' split; all_goals (try (split at *)); all_goals omega)

def rightK (k : K4) : Bool := decide (1 ≤ k.a ∧ k.a ≤ 255 ∧ 0 ≤ k.b ∧ k.b ≤ 255 ∧ 0 ≤ k.c ∧ k.c ≤ 1073741824 ∧ 0 ≤ k.d ∧ k.d ≤ 1073741824)
theorem right_any (k : K4) (w : World) :
    Calls Try.prog 59 #[kv k] w fun e w' => e = .returned (.bool (rightK k)) ∧ Below w.heap.size w w' := by
  go_enter Try.func59, Try.ntmps59
  unfold kv
  go_wp2_with fail
  all_goals
    go_ret
    refine ⟨?_, (Below.refl _ _).alloc (Nat.le_refl _) _⟩
    simp [rightK, *]
    try omega

/-- A key that was laid in a block of its own. -/
def KeyAt (w : World) (x : Nat) (k : K4) : Prop := w.heap[x]? = some (.cells #[.int .i64 k.a, .int .i64 k.b, .int .i64 k.c, .int .i64 k.d] 27)
theorem KeyAt.new (w : World) (k : K4) : KeyAt (w.alloc (.cells #[.int .i64 k.a, .int .i64 k.b, .int .i64 k.c, .int .i64 k.d] 27)) w.heap.size k := (MapKept.heap_alloc w _).1
theorem KeyAt.lt {w : World} {x : Nat} {k : K4} (h : KeyAt w x k) : x < w.heap.size := (Array.getElem?_eq_some_iff.1 h).1
theorem KeyAt.later {w w' : World} {x : Nat} {k : K4} (h : KeyAt w x k) (hb : Below w.heap.size w w') : KeyAt w' x k := by
  unfold KeyAt at *
  rw [hb.block x (Array.getElem?_eq_some_iff.1 h).1]; exact h
theorem cell_of_block {w : World} {x : Nat} {cs : Array Value} {t : TypeId} {fr : Nat × Nat} (h : w.heap[x]? = some (.cells cs t fr)) {i : Nat} {v : Value} (hv : cs[i]? = some v) : w.cell? ⟨x, i, .none⟩ = some v := by
  simp [World.cell?, h, hv]
theorem KeyAt.cells {w : World} {x : Nat} {k : K4} (h : KeyAt w x k) : w.cell? ⟨x, 0, .none⟩ = some (.int .i64 k.a) ∧ w.cell? ⟨x, 1, .none⟩ = some (.int .i64 k.b) ∧ w.cell? ⟨x, 2, .none⟩ = some (.int .i64 k.c) ∧ w.cell? ⟨x, 3, .none⟩ = some (.int .i64 k.d) :=
  ⟨cell_of_block h rfl, cell_of_block h rfl, cell_of_block h rfl, cell_of_block h rfl⟩

def whyNot (S : St) (k : K4) : Int := if S.off then 7 else if rightK k then 0 else 1
theorem refused_any (w : World) (b : Nat) (g : Gh) (S : St) (h : Sto w b g S) (k : K4) :
    Calls Try.prog 33 #[.pointer (some ⟨b, 0, .none⟩), kv k] w fun e w' => e = .returned (.int .i64 (whyNot S k)) ∧ Below w.heap.size w w' := by
  have c1 : w.cell? ⟨b, 1, .none⟩ = some (.bool S.off) := cell_of_block h.heap rfl
  have hlt := h.lt
  unfold kv
  go_enter Try.func33, Try.ntmps33
  go_wp2_with fail
  · go_ret
    refine ⟨?_, (Below.refl _ _).alloc (Nat.le_refl _) _⟩
    simp [whyNot, *]
  · refine (right_any k _).mono ?_
    rintro e w' ⟨rfl, hb⟩
    have hb2 : Below w.heap.size w w' := ((Below.refl _ _).alloc (Nat.le_refl _) _).trans (hb.mono (by simp))
    cases hr : rightK k
    all_goals
      go_wp2_with fail
      go_ret
      refine ⟨?_, hb2⟩
      simp [whyNot, *]

theorem zero_ptr_ob (w : World) : (zeroValue 66).run Try.prog w = .ok (.pointer .none) w := by kernel_rfl
theorem zero_ptr_pa (w : World) : (zeroValue 80).run Try.prog w = .ok (.pointer .none) w := by kernel_rfl

def findR (S : St) (k : K4) (x : Option Nat) : Value := .tuple #[if whyNot S k = 0 then ptrV x else .pointer .none, .int .i64 (if whyNot S k = 0 then (if x.isSome then 0 else 4) else whyNot S k)]
theorem find_any (w : World) (b : Nat) (g : Gh) (S : St) (h : Sto w b g S) (k : K4) (hk : k.ok) :
    Calls Try.prog 36 #[.pointer (some ⟨b, 0, .none⟩), kv k] w fun e w' =>
      e = .returned (findR S k (g.pm k)) ∧ Below w.heap.size w w' := by
  have hlt := h.lt
  unfold kv
  go_enter Try.func36, Try.ntmps36
  go_wp2_with fail
  refine (refused_any _ b g S (h.later ((Below.refl _ _).alloc (Nat.le_refl _) _)) k).mono ?_
  rintro e w1 ⟨rfl, hb⟩
  have hb2 : Below w.heap.size w w1 := ((Below.refl _ _).alloc (Nat.le_refl _) _).trans (hb.mono (by simp))
  obtain ⟨k0, k1, k2, k3⟩ := ((KeyAt.new w k).later hb).cells
  have h1 := h.later hb2
  have c2 : w1.cell? ⟨b, 2, .none⟩ = some g.sv := cell_of_block h1.heap rfl
  have hlk := PMap.look (w := w1.drew) h1.sm Try.underlying61 zero_ptr_ob hk
  unfold kv at hlk
  obtain ⟨y, hy⟩ : ∃ y, whyNot S k = y := ⟨_, rfl⟩
  simp only [hy]
  by_cases hw : y = 0
  · subst hw
    go_wp2_with fail
    go_region
    simp only [Exit.then]
    clear hlk
    cases hp : g.pm k
    all_goals
      simp only [ptrV, Option.map]
      go_wp2_with fail
      go_ret2
      refine ⟨?_, hb2.drew⟩
      simp [findR, ptrV, hy, hp]
  · clear hlk c2 k0 k1 k2 k3 h1 h hb
    have HY := Lib.hid hy
    clear hy
    go_wp2_with fail
    go_ret2
    refine ⟨?_, hb2⟩
    simp [findR, HY.out, hw]

/-! ### of one object -/
theorem used_any (w : World) (r : Nat → Role) (p : Bool) (k : K4) (x : Option Nat) (o : Option Ob) (h : OpAt w r p k x o) (hn : ∀ o', o = some o' → o'.bytes.length ≤ 100000 ∧ 0 ≤ o'.named ∧ o'.named ≤ 1099511627776) :
    Calls Try.prog 44 #[ptrV x] w fun e w' => e = .returned (.int .i64 (usedOf o)) ∧ Below w.heap.size w w' := by
  cases x with
  | none =>
    cases o with
    | some o => exact absurd h (by simp [OpAt])
    | none =>
      simp only [ptrV, Option.map]
      go_enter Try.func44, Try.ntmps44
      go_wp2_with fail
      go_ret
      exact ⟨rfl, Below.refl _ _⟩
  | some x =>
    cases o with
    | none => exact absurd h (by simp [OpAt])
    | some o =>
      obtain ⟨bv, av, h⟩ := h
      obtain ⟨hn1, hn2, hn3⟩ := hn o rfl
      obtain ⟨a, cap, rfl, hr, _⟩ := h.row.row
      have c0 : w.cell? ⟨x, 0, .none⟩ = some (.slice a o.bytes.length cap) := cell_of_block h.heap rfl
      have c2 : w.cell? ⟨x, 2, .none⟩ = some (.int .i64 o.named) := cell_of_block h.heap rfl
      simp only [ptrV, Option.map]
      go_enter Try.func44, Try.ntmps44
      go_wp2_with fail
      go_region
      simp only [Exit.then]
      go_wp2_with fail
      go_ret
      exact ⟨rfl, (Below.refl _ _).drew⟩

def growthI (o : Ob) (off n : Int) : Int := if n = 0 then 0 else max (off + n - o.bytes.length) 0
theorem growth_any (w : World) (r : Nat → Role) (p : Bool) (k : K4) (x : Nat) (o : Ob) (h : ObX w r p k x o) (off n : Int) (ho : 0 ≤ off) (ho2 : off ≤ 1000000) (hn : 0 ≤ n) (hn2 : n ≤ 1000000) (hl : o.bytes.length ≤ 100000) :
    Calls Try.prog 62 #[.pointer (some ⟨x, 0, .none⟩), .int .i64 off, .int .i64 n] w fun e w' => e = .returned (.int .i64 (growthI o off n)) ∧ w = w' := by
  obtain ⟨bv, av, h⟩ := h
  obtain ⟨a, cap, rfl, hr, _⟩ := h.row.row
  have c0 : w.cell? ⟨x, 0, .none⟩ = some (.slice a o.bytes.length cap) := cell_of_block h.heap rfl
  go_enter Try.func62, Try.ntmps62
  unfold growthI
  by_cases h0 : n = 0
  · subst h0
    go_wp2_with fail
    go_ret
    exact ⟨rfl, rfl⟩
  · rw [if_neg h0]
    go_wp2_with fail
    all_goals
      go_ret
      refine ⟨?_, rfl⟩
      simp
      omega

/-! ### of the store -/
theorem left_any (w : World) (b : Nat) (g : Gh) (S : St) (h : Sto w b g S) (hr : S.room ≤ 1048576 ∧ 0 ≤ S.room) (hu : 0 ≤ S.used ∧ S.used ≤ 1099511627776) :
    Calls Try.prog 25 #[.pointer (some ⟨b, 0, .none⟩)] w fun e w' => e = .returned (.int .i64 (max (S.room - S.used) 0)) ∧ Below w.heap.size w w' := by
  have c0 : w.cell? ⟨b, 0, .none⟩ = some (.int .i64 S.room) := cell_of_block h.heap rfl
  have c4 : w.cell? ⟨b, 4, .none⟩ = some (.int .i64 S.used) := cell_of_block h.heap rfl
  obtain ⟨h1, h2⟩ := hr
  obtain ⟨h3, h4⟩ := hu
  clear h
  go_enter Try.func25, Try.ntmps25
  go_wp2_with fail
  go_region
  all_goals (simp only [Exit.then])
  all_goals (go_wp2_with fail)
  all_goals
    go_ret
    refine ⟨?_, (Below.refl _ _).drew⟩
    simp
    omega
theorem on_any (w : World) (b : Nat) (g : Gh) (S : St) (h : Sto w b g S) :
    Calls Try.prog 21 #[.pointer (some ⟨b, 0, .none⟩)] w fun e w' => e = .returned (.bool (!S.off)) ∧ w = w' := by
  have c1 : w.cell? ⟨b, 1, .none⟩ = some (.bool S.off) := cell_of_block h.heap rfl
  clear h
  obtain ⟨o, ho⟩ : ∃ o, S.off = o := ⟨_, rfl⟩
  rw [ho] at c1 ⊢
  clear ho
  cases o
  all_goals
    go_enter Try.func21, Try.ntmps21
    go_wp2_with fail
    go_ret
    exact ⟨rfl, rfl⟩
theorem blown_any (w : World) (b : Nat) (g : Gh) (S : St) (h : Sto w b g S) :
    Calls Try.prog 35 #[.pointer (some ⟨b, 0, .none⟩)] w fun e w' => e = .returned (.bool false) ∧ w = w' := by
  have c6 : w.cell? ⟨b, 6, .none⟩ = some (.pointer .none) := cell_of_block h.heap rfl
  clear h
  go_enter Try.func35, Try.ntmps35
  go_wp2_with fail
  go_ret
  exact ⟨rfl, rfl⟩

/-! ### copies -/
theorem Own.nil' (w : World) : Own w w (.slice none 0 0) [] := ⟨World.ownsRow_nil _ _ _ _, Below.refl _ _⟩
theorem row_nil_or' {w : World} {a : Option Addr} {cap : Nat} {l : List UInt8} (h : Row w a cap l) : (a = none ∧ l = [] ∧ cap = 0) ∨ ∃ x, a = some x := by
  cases a with
  | none => exact .inl ⟨rfl, h.of_nil⟩
  | some x => exact .inr ⟨x, rfl⟩
theorem Own.bRow {W0 w : World} {v : Value} {l : List UInt8} (h : Own W0 w v l) : BRow w v l := by
  refine ⟨h.1.1, ?_⟩
  rcases h.1.2 with hv | ⟨g, cap, cur, hv, hb2, rest⟩
  · exact .inl hv
  · exact .inr ⟨g, cap, cur, hv, Nat.zero_le _, rest⟩
theorem Own.new {W0 w : World} {v : Value} {l : List UInt8} (h : Own W0 w v l) : ∀ g, v.ownBlock = some g → W0.heap.size ≤ g ∧ g < w.heap.size := fun g hg => h.1.lt g hg
/-- A copy that one made oneself is of nobody's role. -/
theorem Own.shr {W0 w : World} {v : Value} {l : List UInt8} (h : Own W0 w v l) {r : Nat → Role} (hd : ∀ x, W0.heap.size ≤ x → r x = .junk) : Shr w r v l := by
  obtain ⟨a, cap, hv, hr⟩ := h.row
  refine ⟨a, cap, hv, hr, fun x hx => ?_⟩
  have := h.new x.block (by rw [hv, hx]; rfl)
  exact ⟨this.2, hd _ this.1⟩

/-- append(s, make([]byte, k)...), s one's own. -/
theorem zero_cells (k : Nat) : (Builtin.zeroCells (Value.int .u8 0).cells k).toList = (List.replicate k (0 : UInt8)).map B8 := by
  have : (Value.int .u8 0).cells = #[.int .u8 0] := rfl
  rw [this, List.map_replicate]
  apply List.ext_getElem
  · simp [Builtin.zeroCells]
  · intro i h1 h2
    simp [Builtin.zeroCells, B8, Nat.mod_one]
theorem run_append_zeros (w : World) (ty : TypeId) (v : Value) (l : List UInt8) (h : BRow w v l) (k : Nat) (hk : l.length + k ≤ 1000000) :
    ∃ v' w', (Builtin.append_ #[31, 3] ty #[v, .int .i64 k]).run Try.prog w = .ok v' w' ∧ BRow w' v' (l ++ List.replicate k 0) ∧ w.grownBy w' v.ownBlock ∧ (v'.ownBlock = v.ownBlock ∨ v'.ownBlock = some w.heap.size) := by
  obtain ⟨i0, hi, hz0, hz1, hz2⟩ := info_parts info_u8
  have hl : ∀ (c : Nat), (l ++ List.replicate k (0 : UInt8)).length = l.length + k := fun _ => by simp
  have hB : (l ++ List.replicate k (0 : UInt8)).map B8 = l.map B8 ++ (List.replicate k (0 : UInt8)).map B8 := List.map_append
  have hzl : ((List.replicate k (0 : UInt8)).map B8).length = k := by simp
  have hone : ∀ u ∈ (List.replicate k (0 : UInt8)).map B8, u.oneCell' = true := by
    intro u hu; simp at hu; obtain ⟨_, rfl⟩ := hu; rfl
  have grown : ∀ (old : Nat) (row : Option Nat),
      BRow (w.drew.alloc (.cells ((l.map B8).toArray ++ Builtin.zeroCells (Value.int .u8 0).cells k ++ Builtin.zeroCells (Value.int .u8 0).cells (grownCap w (l.length + k) old 5 - (l.length + k))) 5))
        (.slice (some ⟨w.heap.size, 0, none⟩) (l.length + k) (grownCap w (l.length + k) old 5)) (l ++ List.replicate k 0) ∧
      w.grownBy (w.drew.alloc (.cells ((l.map B8).toArray ++ Builtin.zeroCells (Value.int .u8 0).cells k ++ Builtin.zeroCells (Value.int .u8 0).cells (grownCap w (l.length + k) old 5 - (l.length + k))) 5)) row := by
    intro old row
    have hge := grownCap_ge w (l.length + k) old 5
    have hcm : grownCap w (l.length + k) old 5 ≤ maxLen := grownCap_le_maxLen w (l.length + k) old _ (by unfold maxLen; omega)
    refine ⟨⟨by simp, .inr ⟨w.heap.size, grownCap w (l.length + k) old 5, _, ?_, Nat.zero_le _, heap_alloc_new w.drew _, ?_, hcm, ?_, ?_⟩⟩, ⟨rfl, rfl, rfl, by simp, fun j hj _ => heap_alloc_old w.drew _ hj⟩⟩
    · rw [hl 0]
    · rw [hl 0]; exact hge
    · simp only [Array.size_append, List.size_toArray, size_zeroCells, List.length_map]
      simp [Value.cells]
      omega
    · rw [hl 0, hB]
      simp only [Array.toList_append, List.append_assoc, zero_cells]
      rw [← List.append_assoc]
      refine List.take_left' ?_
      simp
  rcases h.2 with ⟨rfl, hn⟩ | ⟨g, cap, cur, rfl, hbg, hg, hnc, hcm, hcs, htake⟩
  · have hx : l = [] := List.length_eq_zero_iff.1 hn
    subst hx
    by_cases hk0 : k = 0
    · subst hk0
      refine ⟨.slice none 0 0, w, ?_, BRow.nil w, ⟨rfl, rfl, rfl, Nat.le_refl _, fun _ _ _ => rfl⟩, .inl rfl⟩
      simp [Builtin.append_, run_underlying Try.underlying31, run_underlying Try.underlying3, sizeOf, typeInfo, hi, hz2, asInt, asIntOf, IntKind.wrap_i64]
    · have hr := Lib.run_append_nil_zeros (P := Try.prog) w 31 3 ty 5 i0 (.int .u8 0) .i64 .i64 Try.underlying31 Try.underlying3 hi hz0 k (by omega) (by omega) (by omega) (by rw [hz2]; omega)
      have hgr := grown 0 (Value.ownBlock (.slice none 0 0))
      simp only [List.length_nil, Nat.zero_add, List.map_nil, List.nil_append] at hgr ⊢
      refine ⟨_, _, hr, ?_, ?_, .inr rfl⟩
      · simpa using hgr.1
      · simpa using hgr.2
  · by_cases hroom : l.length + k ≤ cap
    · have hfit : l.length * 1 + ((List.replicate k (0 : UInt8)).map B8).length ≤ cur.size := by rw [hzl, hcs]; omega
      have hst := run_storeCells_at Try.prog g (l.length * 1) 5 ((List.replicate k (0 : UInt8)).map B8) 0 cur w hg (by simpa using hfit) hone
      simp only [Nat.add_zero] at hst
      refine ⟨.slice (some ⟨g, 0, none⟩) (l.length + k) cap, w.setRow g (cur.toList.take (l.length * 1) ++ ((List.replicate k (0 : UInt8)).map B8) ++ cur.toList.drop (l.length * 1 + ((List.replicate k (0 : UInt8)).map B8).length)).toArray, ?_, ⟨by simp, .inr ⟨g, cap, _, by rw [hl 0], Nat.zero_le _, setRow_heap w g cur _ _ _ hg, by rw [hl 0]; exact hroom, hcm, ?_, ?_⟩⟩, ⟨rfl, rfl, rfl, by simp, fun j _ hj => setRow_other w g j _ (fun e => hj (by simp [Value.ownBlock, e]))⟩, .inl rfl⟩
      · have hi0 : ¬ ((k : Int) < 0) := by omega
        have hwk : IntKind.i64.wrap (k : Int) = k := by rw [IntKind.wrap_i64]; omega
        have h48 : ¬ (281474976710656 < (k : Int)) := by omega
        by_cases hk0 : k = 0
        · subst hk0
          simp at hst
          simp [Builtin.append_, run_underlying Try.underlying31, run_underlying Try.underlying3, sizeOf, typeInfo, hi, hz1, hz2, asInt, asIntOf, IntKind.wrap_i64, hnc, Addr.add_lit, hst]
        · rw [← zero_cells] at hst ⊢
          simp [Builtin.append_, run_underlying Try.underlying31, run_underlying Try.underlying3, sizeOf, typeInfo, zeroValue, hi, hz0, hz1, hz2, asInt, asIntOf, hwk, hi0, h48, hk0, hroom, Addr.add_lit]
          simp at hst
          rw [hst]
          rfl
      · simp only [List.size_toArray, List.length_append, List.length_take, List.length_drop, Array.length_toList]
        omega
      · rw [htake, hl 0, hB, Nat.mul_one]
        refine List.take_left' ?_
        simp
    · have hr := Lib.run_append_grow_zeros (P := Try.prog) w 31 3 ty 5 i0 (.int .u8 0) .i64 .i64 Try.underlying31 Try.underlying3 hi hz0 (some ⟨g, 0, none⟩) l.length cap (l.map B8)
        (run_firstCells_some (P := Try.prog) w.drew i0.size l.length ⟨g, 0, none⟩ _ _ (l.map B8) (by rw [hz1]; simp) (World.ownsRow.cells h (g := g) rfl)) k (by omega) (by omega) (by omega) (by omega) (by rw [hz2]; omega) (growslice_fits (by omega) (by rw [hz2]; omega))
      have hgr := grown cap (Value.ownBlock (.slice (some ⟨g, 0, none⟩) l.length cap))
      exact ⟨_, _, hr, hgr.1, hgr.2, .inr rfl⟩
end Go.Proofs.Ytgjdabneodkmpaa
