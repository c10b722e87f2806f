/- Messages: what bytes are: the document's rest. Printed by gen_msq.py. -/
import Derived.Test.YtiahifpbofkimaaGO
import Derived.Deep.RegionHeld3
namespace Go.Proofs.Ytiahifpbofkimaa
open Go.RowKit Go.Proofs
set_option linter.unusedVariables false
set_option linter.unusedSimpArgs false
set_option linter.unnecessarySimpa false

/-! ### entries as flat records -/
structure Fx where
  tag : Int
  seq : Int
  a : Option Addr
  n : Nat
  c : Nat
def fxV (t : Fx) : List Value := [.int .i64 t.tag, .int .i64 t.seq, .slice t.a t.n t.c]
abbrev fxT : RT Fx := ⟨fxV, 3, fun _ => True, 44, 23⟩
theorem fxOk : (fxT).Ok := RT.Ok.of (fun t => rfl) (fun t u h => by
    simp only [fxV, List.mem_cons, List.not_mem_nil, or_false] at h
    rcases h with rfl | rfl | rfl <;> rfl) (by decide) Try.underlying23 info_en rfl (by decide) rfl
/-- What their bytes are. -/
def Deep (w : World) (fs : List Fx) (es : List En) : Prop := fs.length = es.length ∧ ∀ (i : Nat) f e, fs[i]? = some f → es[i]? = some e → f.tag = e.tag ∧ f.seq = e.seq ∧ f.n = e.data.length ∧ Row w f.a f.c e.data
theorem Deep.later {w w' : World} {fs : List Fx} {es : List En} (h : Deep w fs es) (hb : Below w.heap.size w w') : Deep w' fs es := ⟨h.1, fun i f e hf he => by obtain ⟨a, b, c, d⟩ := h.2 i f e hf he; exact ⟨a, b, c, d.later hb⟩⟩
theorem Deep.only {w w' : World} {fs : List Fx} {es : List En} {P : Nat} {cs : Array Value} {t : TypeId} (h : Deep w fs es) (ho : OnlyP P w w') (hr : RecAt w P cs t) (hn : NoB8 cs) : Deep w' fs es := ⟨h.1, fun i f e hf he => by obtain ⟨a, b, c, d⟩ := h.2 i f e hf he; exact ⟨a, b, c, d.only ho hr hn⟩⟩
theorem Deep.snoc {w : World} {fs : List Fx} {es : List En} {f : Fx} {e : En} (h : Deep w fs es) (h1 : f.tag = e.tag) (h2 : f.seq = e.seq) (h3 : f.n = e.data.length) (h4 : Row w f.a f.c e.data) : Deep w (fs ++ [f]) (es ++ [e]) := by
  refine ⟨by simp [h.1], fun i f' e' hf he => ?_⟩
  by_cases hi : i < fs.length
  · rw [List.getElem?_append_left hi] at hf
    rw [List.getElem?_append_left (by have := h.1; omega)] at he
    exact h.2 i f' e' hf he
  · have hi2 : i = fs.length := by
      have := (List.getElem?_eq_some_iff.1 hf).1
      simp at this; omega
    subst hi2
    rw [List.getElem?_append_right (Nat.le_refl _), Nat.sub_self] at hf
    rw [h.1, List.getElem?_append_right (Nat.le_refl _), Nat.sub_self] at he
    simp at hf he
    subst hf he
    exact ⟨h1, h2, h3, h4⟩
theorem Deep.erow {w : World} {a : Option Addr} {cap : Nat} {fs : List Fx} {es : List En} (h : Deep w fs es) (hr : GRow fxT w a cap fs) : ERow w a cap es := by
  refine ⟨by rw [← h.1]; exact hr.1, hr.2.1, hr.2.2.1, fun x hx i e he => ?_⟩
  have hi : i < fs.length := by have := (List.getElem?_eq_some_iff.1 he).1; rw [h.1]; exact this
  obtain ⟨s, c⟩ := hr.2.2.2.2 x hx i fs[i] (List.getElem?_eq_getElem hi)
  obtain ⟨d1, d2, d3, d4⟩ := h.2 i fs[i] e (List.getElem?_eq_getElem hi) he
  have c0 := c 0 _ rfl
  have c1 := c 1 _ rfl
  have c2 := c 2 _ rfl
  rw [d1] at c0
  rw [d2] at c1
  rw [d3] at c2
  exact ⟨s, _, _, c0, c1, c2, d4⟩
theorem rec_keptM {α : Type} {R : RT α} (hR : R.Ok) {w0 w' : World} {o : Obj} {cs : Array Value} {E : TypeId} {row : Option Nat} (hg : ((w0.alloc (.cells cs E)).alloc o).grownBy w' row) {t : α} (ht : R.B t) (hc : cs.toList = R.V t) (x : Nat) (hx : x = w0.heap.size) (hne : some x ≠ row) : GRow R w' (some ⟨x, 0, none⟩) 1 [t] := by
  subst hx
  exact ((grow_new hR w0 ht hc E).later ((Below.refl _ _).alloc (Nat.le_refl _) o)).kept hg hne
theorem rec_keptM2 {α : Type} {R : RT α} (hR : R.Ok) {w0 w' : World} {o : Obj} {cs : Array Value} {E : TypeId} {row : Option Nat} (hg : ((w0.alloc o).alloc (.cells cs E)).grownBy w' row) {t : α} (ht : R.B t) (hc : cs.toList = R.V t) (x : Nat) (hx : x = w0.heap.size + 1) (hne : some x ≠ row) : GRow R w' (some ⟨x, 0, none⟩) 1 [t] := by
  subst hx
  have := (grow_new hR (w0.alloc o) ht hc E)
  rw [show (w0.alloc o).heap.size = w0.heap.size + 1 by simp] at this
  exact this.kept hg hne

/-! ### lists that lie in no message's block -/
/-- The row's block is no message's record. -/
def NMs (w : World) (a : Option Addr) : Prop := ∀ x, a = some x → x.block < w.heap.size ∧ ∀ cs, ¬ RecAt w x.block cs 27
theorem NMs.none (w : World) : NMs w none := fun x hx => (by cases hx)
theorem NMs.later {w w' : World} {a : Option Addr} (h : NMs w a) (hb : Below w.heap.size w w') : NMs w' a := fun x hx => ⟨Nat.lt_of_lt_of_le (h x hx).1 hb.size, fun cs hr => (h x hx).2 cs (by unfold RecAt at *; rw [← hb.block x.block (h x hx).1]; exact hr)⟩
theorem NMs.ne {w : World} {a : Option Addr} {P : Nat} {cs : Array Value} (h : NMs w a) (hr : RecAt w P cs 27) : ∀ x, a = some x → x.block ≠ P := fun x hx e => (h x hx).2 cs (e ▸ hr)
theorem NMs.only {w w' : World} {a : Option Addr} {P : Nat} {cs : Array Value} (h : NMs w a) (ho : OnlyP P w w') (hr : RecAt w P cs 27) : NMs w' a := fun x hx => by
  have e := ho x.block (h.ne hr x hx)
  have hlt := (h x hx).1
  refine ⟨?_, fun cs' hr' => (h x hx).2 cs' (by unfold RecAt at *; rw [← e]; exact hr')⟩
  rw [Array.getElem?_eq_getElem hlt] at e
  exact (Array.getElem?_eq_some_iff.1 e).1
theorem nms_own {w : World} {B n sz : Nat} {E : TypeId} {a : Option Addr} {k cap : Nat} {xs : List Value} (h : w.ownsRow B E sz (.slice a k cap) n xs) (hE : E ≠ 27) : NMs w a := by
  intro x hx
  rcases h.2 with ⟨hv2, hn⟩ | ⟨g, cap2, cur, hv2, hb, hg, _⟩
  · simp only [Value.slice.injEq] at hv2; rw [hv2.1] at hx; cases hx
  · simp only [Value.slice.injEq] at hv2
    rw [hv2.1] at hx
    cases hx
    refine ⟨(Array.getElem?_eq_some_iff.1 hg).1, fun cs hr => ?_⟩
    unfold RecAt at hr
    simp only at hr
    rw [hg] at hr
    simp only [Option.some.injEq, Obj.cells.injEq] at hr
    exact hE hr.2.1
theorem TOwn.nms {W0 w : World} {a : Option Addr} {k cap : Nat} {ts : List Tg} (h : TOwn W0 w (.slice a k cap) ts) : NMs w a := nms_own h.1 (by decide)
theorem GOwn.nms {α : Type} {R : RT α} {W0 w : World} {a : Option Addr} {k cap : Nat} {ts : List α} (h : GOwn R W0 w (.slice a k cap) ts) (hE : R.E ≠ 27) : NMs w a := nms_own h.1 hE
def MsNo (w : World) (p : MsAt) : Prop := NMs w p.ac ∧ NMs w p.ae ∧ NMs w p.am
theorem MsNo.later {w w' : World} {p : MsAt} (h : MsNo w p) (hb : Below w.heap.size w w') : MsNo w' p := ⟨h.1.later hb, h.2.1.later hb, h.2.2.later hb⟩
theorem MsNo.only {w w' : World} {p : MsAt} {P : Nat} {cs : Array Value} (h : MsNo w p) (ho : OnlyP P w w') (hr : RecAt w P cs 27) : MsNo w' p := ⟨h.1.only ho hr, h.2.1.only ho hr, h.2.2.only ho hr⟩
theorem MsRows.onlyN {w w' : World} {m : Ms} {p : MsAt} {P : Nat} {cs : Array Value} (h : MsRows w m p) (hf : MsNo w p) (ho : OnlyP P w w') (hr : RecAt w P cs 27) (hn : NoB8 cs) : MsRows w' m p :=
  ⟨h.c.only ho (hf.1.ne hr), h.e.only ho (hf.2.1.ne hr) hr hn, h.t.only ho (hf.2.2.ne hr), h.d.only ho hr hn, h.hc, h.he, h.ht, h.hd⟩

/-! ### rest -/
/-- What rest answers of bytes l from p on, of a message with a kind and numbers alone. -/
def RestP (l : List UInt8) (p : Nat) (k n o f s u : Int) (w : World) (e : Ending) (w' : World) : Prop :=
  ∃ (g : Ms) (q : MsAt) (z : Bool), e = .returned (.tuple #[msV g q, .bool z]) ∧ Below w.heap.size w w' ∧ MsRows w' g q ∧ MsNo w' q ∧
    ∀ d, MsOk d → d.kind = k → d.nonce = n → d.pos = o → d.fin = f → d.stage = s → d.num = u → l.drop p = tailM d → z = true ∧ g = d
set_option maxRecDepth 100000 in
set_option maxHeartbeats 12800000 in
theorem rest_x (ad : Option Addr) (m c : Nat) (l : List UInt8) (p : Nat) (k n o f s u : Int) (w : World) (hr : Row w ad c l) (hm : l.length = m) (hlen : m ≤ 100000) (hp : p ≤ m) (h1m : 0 < m) (hk2 : k ≠ 2) (hk4 : k ≠ 4) (hk6 : k ≠ 6) :
    Calls Try.prog 35 #[.agg #[.int .i64 k, .int .i64 n, .int .i64 o, .int .i64 f, .int .i64 s, .int .i64 u, .slice none 0 0, .slice none 0 0, .slice none 0 0, .slice none 0 0], .slice ad m c, .int .i64 (p : Nat)] w (RestP l p k n o f s u w) := by
  have HR := Lib.hid hr
  have HM := Lib.hid hm
  have hcm : c ≤ 9223372036854775807 := by have := hr.2.1; unfold maxLen at this; omega
  obtain ⟨X3, X6, B1⟩ := two_recsM w #[.int .i64 k, .int .i64 n, .int .i64 o, .int .i64 f, .int .i64 s, .int .i64 u, .slice none 0 0, .slice none 0 0, .slice none 0 0, .slice none 0 0] zeroMs 27 27
  have HX3 := Lib.hid X3
  have HX6 := Lib.hid X6
  have HB1 := Lib.hid B1
  clear hr hm X3 X6 B1
  have tk2 : (k == 2) = false := by simpa using hk2
  have tk4 : (k == 4) = false := by simpa using hk4
  have tk6 : (k == 6) = false := by simpa using hk6
  have HKX : Hid (k ≠ 2 ∧ k ≠ 4 ∧ k ≠ 6) := Lib.hid ⟨hk2, hk4, hk6⟩
  clear hk2 hk4 hk6
  obtain ⟨Q, hQ⟩ : ∃ Q, RestP l p k n o f s u w = Q := ⟨_, rfl⟩
  rw [hQ]
  have HQN : Hid (∀ g q w', Below w.heap.size w w' → MsRows w' g q → MsNo w' q → (∀ d, MsOk d → d.kind = k → d.nonce = n → d.pos = o → d.fin = f → d.stage = s → d.num = u → l.drop p = tailM d → False) → Q (.returned (.tuple #[msV g q, .bool false])) w') :=
    Lib.hid (fun g q w' hb hr1 hr2 hv => by rw [← hQ]; exact ⟨g, q, false, rfl, hb, hr1, hr2, fun d h1 h2 h3 h4 h5 h6 h7 h8 => (hv d h1 h2 h3 h4 h5 h6 h7 h8).elim⟩)
  have HQY : Hid (∀ g q w', Below w.heap.size w w' → MsRows w' g q → MsNo w' q → (∀ d, MsOk d → d.kind = k → d.nonce = n → d.pos = o → d.fin = f → d.stage = s → d.num = u → l.drop p = tailM d → g = d) → Q (.returned (.tuple #[msV g q, .bool true])) w') :=
    Lib.hid (fun g q w' hb h1 h2 hv => by rw [← hQ]; exact ⟨g, q, true, rfl, hb, h1, h2, fun d h1 h2 h3 h4 h5 h6 h7 h8 => ⟨rfl, hv d h1 h2 h3 h4 h5 h6 h7 h8⟩⟩)
  clear hQ
  go_enter Try.func35, Try.ntmps35
  go_upto_region 1 with fail
  simp only [zeroMs] at HX3 HX6 HB1
  generalize ((w.alloc (.cells #[.int .i64 k, .int .i64 n, .int .i64 o, .int .i64 f, .int .i64 s, .int .i64 u, .slice none 0 0, .slice none 0 0, .slice none 0 0, .slice none 0 0] 27)).alloc (.cells #[.int .i64 0, .int .i64 0, .int .i64 0, .int .i64 0, .int .i64 0, .int .i64 0, .slice none 0 0, .slice none 0 0, .slice none 0 0, .slice none 0 0] 27)) = w1 at *
  obtain ⟨P6, hP6⟩ : ∃ P, w.heap.size + 1 = P := ⟨_, rfl⟩
  have HP6 := Lib.hid hP6
  rw [hP6] at HX6 ⊢
  clear hP6
  obtain ⟨P3, hP3⟩ : ∃ P, w.heap.size = P := ⟨_, rfl⟩
  have HP3 := Lib.hid hP3
  rw [hP3]
  rw [hP3] at HX3
  clear hP3
  obtain ⟨y0, y1, y2, y3, y4, y5, y6, y7, y8, y9⟩ := HX3.out.c10
  have HG : Hid (∀ d, MsOk d → d.kind = k → d.nonce = n → d.pos = o → d.fin = f → d.stage = s → d.num = u → l.drop p = tailM d → (⟨k, n, o, f, s, u, [], [], [], []⟩ : Ms) = d) := Lib.hid (fun d hd h1 h2 h3 h4 h5 h6 _ => by
    have hkk := HKX.out
    rw [← h1] at hkk
    have hc : d.chain = [] := Classical.byContradiction fun h3 => by have := hd.2.1.2.2.2.2.1 h3; omega
    have he : d.ents = [] := Classical.byContradiction fun h3 => by have := hd.2.1.2.2.2.2.2.1 h3; omega
    have hm : d.marks = [] := Classical.byContradiction fun h3 => by have := hd.2.1.2.2.2.2.2.2.1 h3; omega
    have hda : d.data = [] := data_nilN hd hkk.2.2
    obtain ⟨d0, d1, d2, d3, d4, d5, d6, d7, d8, d9⟩ := d
    simp only at h1 h2 h3 h4 h5 h6 hc he hm hda
    rw [h1, h2, h3, h4, h5, h6, hc, he, hm, hda])
  go_wp2_with (refine wpList_rec rfl rfl P6 zeroMs #[.int .i64 k, .int .i64 n, .int .i64 o, .int .i64 f, .int .i64 s, .int .i64 u, .slice none 0 0, .slice none 0 0, .slice none 0 0, .slice none 0 0] rfl rfl HX6.out rfl (by kernel_rfl) (by kernel_rfl) ?_; intro w9 r1 r2 r3 r4)
  refine bodyPost_ret (results_ct rfl rfl r1 Try.underlying27 rfl (by kernel_rfl)) rfl ?_
  exact HQY.out ⟨k, n, o, f, s, u, [], [], [], []⟩ ⟨none, 0, 0, none, 0, 0, none, 0, 0, none, 0, 0⟩ _ (HB1.out.grown r4 HB1.out.size (fun q e => by cases e; have := HP6.out; omega)) ((MsRows.nil w1 ⟨k, n, o, f, s, u, [], [], [], []⟩ rfl rfl rfl rfl).onlyN (show MsNo w1 ⟨none, 0, 0, none, 0, 0, none, 0, 0, none, 0, 0⟩ from ⟨NMs.none _, NMs.none _, NMs.none _⟩) r3 HX6.out (noB8_ms _ _ _ _ _ _ _ _ _ _ _ _ _ _ _ _ _ _)) ((show MsNo w1 ⟨none, 0, 0, none, 0, 0, none, 0, 0, none, 0, 0⟩ from ⟨NMs.none _, NMs.none _, NMs.none _⟩).only r3 HX6.out) HG.out
set_option maxRecDepth 100000 in
set_option maxHeartbeats 12800000 in
theorem rest_6 (ad : Option Addr) (m c : Nat) (l : List UInt8) (p : Nat) (k n o f s u : Int) (w : World) (hr : Row w ad c l) (hm : l.length = m) (hlen : m ≤ 100000) (hp : p ≤ m) (h1m : 0 < m) (hk6 : k = 6) :
    Calls Try.prog 35 #[.agg #[.int .i64 k, .int .i64 n, .int .i64 o, .int .i64 f, .int .i64 s, .int .i64 u, .slice none 0 0, .slice none 0 0, .slice none 0 0, .slice none 0 0], .slice ad m c, .int .i64 (p : Nat)] w (RestP l p k n o f s u w) := by
  have HR := Lib.hid hr
  have HM := Lib.hid hm
  have hcm : c ≤ 9223372036854775807 := by have := hr.2.1; unfold maxLen at this; omega
  obtain ⟨X3, X6, B1⟩ := two_recsM w #[.int .i64 k, .int .i64 n, .int .i64 o, .int .i64 f, .int .i64 s, .int .i64 u, .slice none 0 0, .slice none 0 0, .slice none 0 0, .slice none 0 0] zeroMs 27 27
  have HX3 := Lib.hid X3
  have HX6 := Lib.hid X6
  have HB1 := Lib.hid B1
  clear hr hm X3 X6 B1
  have tk2 : (k == 2) = false := by simp [hk6]
  have tk4 : (k == 4) = false := by simp [hk6]
  have tk6 : (k == 6) = true := by simp [hk6]
  have HKX := Lib.hid hk6
  clear hk6
  obtain ⟨Q, hQ⟩ : ∃ Q, RestP l p k n o f s u w = Q := ⟨_, rfl⟩
  rw [hQ]
  have HQN : Hid (∀ g q w', Below w.heap.size w w' → MsRows w' g q → MsNo w' q → (∀ d, MsOk d → d.kind = k → d.nonce = n → d.pos = o → d.fin = f → d.stage = s → d.num = u → l.drop p = tailM d → False) → Q (.returned (.tuple #[msV g q, .bool false])) w') :=
    Lib.hid (fun g q w' hb hr1 hr2 hv => by rw [← hQ]; exact ⟨g, q, false, rfl, hb, hr1, hr2, fun d h1 h2 h3 h4 h5 h6 h7 h8 => (hv d h1 h2 h3 h4 h5 h6 h7 h8).elim⟩)
  have HQY : Hid (∀ g q w', Below w.heap.size w w' → MsRows w' g q → MsNo w' q → (∀ d, MsOk d → d.kind = k → d.nonce = n → d.pos = o → d.fin = f → d.stage = s → d.num = u → l.drop p = tailM d → g = d) → Q (.returned (.tuple #[msV g q, .bool true])) w') :=
    Lib.hid (fun g q w' hb h1 h2 hv => by rw [← hQ]; exact ⟨g, q, true, rfl, hb, h1, h2, fun d h1 h2 h3 h4 h5 h6 h7 h8 => ⟨rfl, hv d h1 h2 h3 h4 h5 h6 h7 h8⟩⟩)
  clear hQ
  go_enter Try.func35, Try.ntmps35
  go_upto_region 1 with fail
  simp only [zeroMs] at HX3 HX6 HB1
  generalize ((w.alloc (.cells #[.int .i64 k, .int .i64 n, .int .i64 o, .int .i64 f, .int .i64 s, .int .i64 u, .slice none 0 0, .slice none 0 0, .slice none 0 0, .slice none 0 0] 27)).alloc (.cells #[.int .i64 0, .int .i64 0, .int .i64 0, .int .i64 0, .int .i64 0, .int .i64 0, .slice none 0 0, .slice none 0 0, .slice none 0 0, .slice none 0 0] 27)) = w1 at *
  obtain ⟨P6, hP6⟩ : ∃ P, w.heap.size + 1 = P := ⟨_, rfl⟩
  have HP6 := Lib.hid hP6
  rw [hP6] at HX6 ⊢
  clear hP6
  obtain ⟨P3, hP3⟩ : ∃ P, w.heap.size = P := ⟨_, rfl⟩
  have HP3 := Lib.hid hP3
  rw [hP3]
  rw [hP3] at HX3
  clear hP3
  obtain ⟨y0, y1, y2, y3, y4, y5, y6, y7, y8, y9⟩ := HX3.out.c10
  obtain ⟨aD, cD, rD, hsl⟩ := sl_from (HR.out.later HB1.out) HM.out (by omega) (lo := p) hp
  obtain ⟨mD, hmD⟩ : ∃ q, m - p = q := ⟨_, rfl⟩
  rw [hmD] at hsl
  have HMD : Hid ((l.drop p).length = mD) := Lib.hid (by rw [List.length_drop, HM.out, hmD])
  have HMM : Hid (mD ≤ 100000) := Lib.hid (by omega)
  have HRDD := Lib.hid rD
  have HBE := Lib.hid ((Below.refl w1.heap.size w1).alloc (Nat.le_refl _) (.cells #[] 5))
  have HOE : Hid (Own w1 (w1.alloc (.cells #[] 5)) (.slice (some ⟨w1.heap.size, 0, none⟩) 0 0) []) := Lib.hid ⟨⟨rfl, .inr ⟨w1.heap.size, 0, _, rfl, Nat.le_refl _, heap_alloc_new w1 _, Nat.le_refl _, by simp [maxLen], rfl, rfl⟩⟩, HBE.out⟩
  clear hmD rD
  go_upto_region 30 with (at_builtin; refine wp_row rfl _ _ rfl _ _ rfl w1 HOE.out _ _ _ _ (HRDD.out.later HBE.out) HMD.out rfl (by have := HMM.out; have := HMD.out; simp only [List.length_nil]; omega) ?_; intro v5 w5 o5; rw [List.nil_append] at o5; obtain ⟨a5, c5, rfl, r5⟩ := o5.row_n HMD.out; have HR5 := Lib.hid r5; have HB5 := Lib.hid o5.below; have HX35 := Lib.hid (HX3.out.later o5.below); have HX65 := Lib.hid (HX6.out.later o5.below); clear o5 r5 y0 y1 y2 y3 y4 y5 y6 y7 y8 y9; obtain ⟨y0, y1, y2, y3, y4, y5, y6, y7, y8, y9⟩ := HX35.out.c10; obtain ⟨f6, f7, f8, f9⟩ := HX35.out.f10)
  have HX8 := Lib.hid (HX35.out.set 9 (.slice a5 mD c5))
  have HB8 := Lib.hid ((HB1.out.trans (HB5.out.mono HB1.out.size)).setCell (p := ⟨P3, 9, none⟩) (by have := HP3.out; simp only; omega) (.slice a5 mD c5))
  have HX68 := Lib.hid (HX65.out.other (y := P3) (by have := HP3.out; have := HP6.out; omega) 9 (.slice a5 mD c5))
  have HRR : Hid (MsRows (w5.setCell ⟨P3, 9, none⟩ (.slice a5 mD c5)) ⟨k, n, o, f, s, u, [], [], [], l.drop p⟩ ⟨none, 0, 0, none, 0, 0, none, 0, 0, a5, mD, c5⟩) := Lib.hid ⟨TRow.nil _, ERow.nil _, GRow.nil _ _, HR5.out.only (OnlyP.set w5 P3 9 _) HX35.out (noB8_ms _ _ _ _ _ _ _ _ _ _ _ _ _ _ _ _ _ _), rfl, rfl, rfl, HMD.out⟩
  have HNO : Hid (MsNo (w5.setCell ⟨P3, 9, none⟩ (.slice a5 mD c5)) ⟨none, 0, 0, none, 0, 0, none, 0, 0, a5, mD, c5⟩) := Lib.hid ⟨NMs.none _, NMs.none _, NMs.none _⟩
  have HFF : Hid (MsFar (w.heap.size + 2) ⟨none, 0, 0, none, 0, 0, none, 0, 0, a5, mD, c5⟩) := Lib.hid (fun x hx => by rcases hx with h | h | h <;> cases h)
  have HG : Hid (∀ d, MsOk d → d.kind = k → d.nonce = n → d.pos = o → d.fin = f → d.stage = s → d.num = u → l.drop p = tailM d → (⟨k, n, o, f, s, u, [], [], [], l.drop p⟩ : Ms) = d) := Lib.hid (fun d hd h1 h2 h3 h4 h5 h6 h7 => by
    have ek : d.kind = 6 := by rw [h1]; exact HKX.out
    rw [tailM_6 ek] at h7
    have hc : d.chain = [] := Classical.byContradiction fun h3 => by have := hd.2.1.2.2.2.2.1 h3; omega
    have he : d.ents = [] := Classical.byContradiction fun h3 => by have := hd.2.1.2.2.2.2.2.1 h3; omega
    have hm : d.marks = [] := Classical.byContradiction fun h3 => by have := hd.2.1.2.2.2.2.2.2.1 h3; omega
    obtain ⟨d0, d1, d2, d3, d4, d5, d6, d7, d8, d9⟩ := d
    simp only at h1 h2 h3 h4 h5 h6 h7 hc he hm
    rw [h1, h2, h3, h4, h5, h6, h7, hc, he, hm])
  clear y0 y1 y2 y3 y4 y5 y6 y7 y8 y9 f6 f7 f8 f9
  generalize (w5.setCell ⟨P3, 9, none⟩ (.slice a5 mD c5)) = w8 at *
  simp only [List.setIfInBounds_toArray, List.set_cons_zero, List.set_cons_succ] at HX8
  obtain ⟨y0, y1, y2, y3, y4, y5, y6, y7, y8, y9⟩ := HX8.out.c10
  go_wp2_with (refine wpList_rec rfl rfl P6 zeroMs #[.int .i64 k, .int .i64 n, .int .i64 o, .int .i64 f, .int .i64 s, .int .i64 u, .slice none 0 0, .slice none 0 0, .slice none 0 0, .slice a5 mD c5] rfl rfl HX68.out rfl (by kernel_rfl) (by kernel_rfl) ?_; intro w9 r1 r2 r3 r4)
  refine bodyPost_ret (results_ct rfl rfl r1 Try.underlying27 rfl (by kernel_rfl)) rfl ?_
  exact HQY.out ⟨k, n, o, f, s, u, [], [], [], l.drop p⟩ ⟨none, 0, 0, none, 0, 0, none, 0, 0, a5, mD, c5⟩ _ (HB8.out.grown r4 HB8.out.size (fun q e => by cases e; have := HP6.out; omega)) (HRR.out.onlyN HNO.out r3 HX68.out (noB8_ms _ _ _ _ _ _ _ _ _ _ _ _ _ _ _ _ _ _)) (HNO.out.only r3 HX68.out) HG.out
set_option maxRecDepth 100000 in
set_option maxHeartbeats 12800000 in
theorem rest_4 (ad : Option Addr) (m c : Nat) (l : List UInt8) (p : Nat) (k n o f s u : Int) (w : World) (hr : Row w ad c l) (hm : l.length = m) (hlen : m ≤ 100000) (hp : p ≤ m) (h1m : 0 < m) (hk4 : k = 4) :
    Calls Try.prog 35 #[.agg #[.int .i64 k, .int .i64 n, .int .i64 o, .int .i64 f, .int .i64 s, .int .i64 u, .slice none 0 0, .slice none 0 0, .slice none 0 0, .slice none 0 0], .slice ad m c, .int .i64 (p : Nat)] w (RestP l p k n o f s u w) := by
  have HR := Lib.hid hr
  have HM := Lib.hid hm
  have hcm : c ≤ 9223372036854775807 := by have := hr.2.1; unfold maxLen at this; omega
  obtain ⟨X3, X6, B1⟩ := two_recsM w #[.int .i64 k, .int .i64 n, .int .i64 o, .int .i64 f, .int .i64 s, .int .i64 u, .slice none 0 0, .slice none 0 0, .slice none 0 0, .slice none 0 0] zeroMs 27 27
  have HX3 := Lib.hid X3
  have HX6 := Lib.hid X6
  have HB1 := Lib.hid B1
  clear hr hm X3 X6 B1
  have tk2 : (k == 2) = false := by simp [hk4]
  have tk4 : (k == 4) = true := by simp [hk4]
  have HKX := Lib.hid hk4
  clear hk4
  obtain ⟨Q, hQ⟩ : ∃ Q, RestP l p k n o f s u w = Q := ⟨_, rfl⟩
  rw [hQ]
  have HQN : Hid (∀ g q w', Below w.heap.size w w' → MsRows w' g q → MsNo w' q → (∀ d, MsOk d → d.kind = k → d.nonce = n → d.pos = o → d.fin = f → d.stage = s → d.num = u → l.drop p = tailM d → False) → Q (.returned (.tuple #[msV g q, .bool false])) w') :=
    Lib.hid (fun g q w' hb hr1 hr2 hv => by rw [← hQ]; exact ⟨g, q, false, rfl, hb, hr1, hr2, fun d h1 h2 h3 h4 h5 h6 h7 h8 => (hv d h1 h2 h3 h4 h5 h6 h7 h8).elim⟩)
  have HQY : Hid (∀ g q w', Below w.heap.size w w' → MsRows w' g q → MsNo w' q → (∀ d, MsOk d → d.kind = k → d.nonce = n → d.pos = o → d.fin = f → d.stage = s → d.num = u → l.drop p = tailM d → g = d) → Q (.returned (.tuple #[msV g q, .bool true])) w') :=
    Lib.hid (fun g q w' hb h1 h2 hv => by rw [← hQ]; exact ⟨g, q, true, rfl, hb, h1, h2, fun d h1 h2 h3 h4 h5 h6 h7 h8 => ⟨rfl, hv d h1 h2 h3 h4 h5 h6 h7 h8⟩⟩)
  clear hQ
  go_enter Try.func35, Try.ntmps35
  go_upto_region 1 with fail
  simp only [zeroMs] at HX3 HX6 HB1
  generalize ((w.alloc (.cells #[.int .i64 k, .int .i64 n, .int .i64 o, .int .i64 f, .int .i64 s, .int .i64 u, .slice none 0 0, .slice none 0 0, .slice none 0 0, .slice none 0 0] 27)).alloc (.cells #[.int .i64 0, .int .i64 0, .int .i64 0, .int .i64 0, .int .i64 0, .int .i64 0, .slice none 0 0, .slice none 0 0, .slice none 0 0, .slice none 0 0] 27)) = w1 at *
  obtain ⟨P6, hP6⟩ : ∃ P, w.heap.size + 1 = P := ⟨_, rfl⟩
  have HP6 := Lib.hid hP6
  rw [hP6] at HX6 ⊢
  clear hP6
  obtain ⟨P3, hP3⟩ : ∃ P, w.heap.size = P := ⟨_, rfl⟩
  have HP3 := Lib.hid hP3
  rw [hP3]
  rw [hP3] at HX3
  clear hP3
  obtain ⟨y0, y1, y2, y3, y4, y5, y6, y7, y8, y9⟩ := HX3.out.c10
  have HTD : Hid (∀ d, MsOk d → d.kind = k → tailM d = textL (putC d.chain) ++ marksL d.marks ∧ ChOk d.chain) := Lib.hid (fun d hd h1 => by
    have ek : d.kind = 4 := by rw [h1]; exact HKX.out
    exact ⟨tailM_4 ek, (hd.2.2.2.1 ek).1⟩)
  obtain ⟨S, qe, zt, hgt, hqe, hss, hgs⟩ := gotT_any l ((p : Nat) : Int) (m : Int) (by have := HM.out; omega)
  have HGT := Lib.hid (rgettext_any ad m c l ((p : Nat) : Int) (m : Int) w1 (HR.out.later HB1.out) HM.out hlen (by omega) (by omega))
  rw [hgt] at HGT
  have HTX : Hid (∀ d x, ChOk d → l.drop p = textL (putC d) ++ x → S.data.toList = putC d ∧ qe = p + (textL (putC d)).length ∧ zt = true) := Lib.hid (fun d x hd hl => hgs _ _ (gtA_put (by have := HM.out; omega) hl (by
      have := congrArg List.length hl
      have := HM.out
      unfold textL at this
      unfold textL at hl
      have h9 := congrArg List.length hl
      simp only [List.length_append, List.length_drop] at h9
      omega) (by have := HM.out; omega)))
  have HQE : Hid (qe ≤ l.length) := Lib.hid hqe
  clear hgt hqe hgs
  cases zt with
  | false =>
    have HV : Hid (∀ d, MsOk d → d.kind = k → d.nonce = n → d.pos = o → d.fin = f → d.stage = s → d.num = u → l.drop p = tailM d → False) := Lib.hid (fun d hd h1 _ _ _ _ _ h7 => by
      obtain ⟨t1, t2⟩ := HTD.out d hd h1
      rw [t1] at h7
      have := (HTX.out _ _ t2 h7).2.2
      cases this)
    go_wp2_with (first
      | (go_at_call 73; refine HGT.out.mono ?_; rintro e w2 ⟨rfl, rfl⟩)
      | (refine wpList_rec rfl rfl P6 zeroMs #[.int .i64 k, .int .i64 n, .int .i64 o, .int .i64 f, .int .i64 s, .int .i64 u, .slice none 0 0, .slice none 0 0, .slice none 0 0, .slice none 0 0] rfl rfl HX6.out rfl (by kernel_rfl) (by kernel_rfl) ?_; intro w9 r1 r2 r3 r4))
    refine bodyPost_ret (results_ct rfl rfl r1 Try.underlying27 rfl (by kernel_rfl)) rfl ?_
    exact HQN.out ⟨k, n, o, f, s, u, [], [], [], []⟩ ⟨none, 0, 0, none, 0, 0, none, 0, 0, none, 0, 0⟩ _ (HB1.out.grown r4 HB1.out.size (fun q e => by cases e; have := HP6.out; omega)) (MsRows.nil _ ⟨k, n, o, f, s, u, [], [], [], []⟩ rfl rfl rfl rfl) ⟨NMs.none _, NMs.none _, NMs.none _⟩ HV.out
  | true =>
  have HBT := Lib.hid (text_below w1 5 S)
  have hcv := conv_text w1 S
  have HGC := Lib.hid (chrget_any _ S.size _ _ _ (text_row w1 5 S (by unfold maxLen; omega)) (Lib.size_eq S).symm (by omega))
  have HX32 := Lib.hid (HX3.out.later HBT.out)
  have HX62 := Lib.hid (HX6.out.later HBT.out)
  have HB2 := Lib.hid (HB1.out.trans (HBT.out.mono HB1.out.size))
  obtain ⟨w2, hw2⟩ : ∃ W, Lib.bytesWorld w1 5 S = W := ⟨_, rfl⟩
  rw [hw2] at hcv HGC HX32 HX62 HB2
  clear HBT hw2 hss
  rcases getCh_two S.data.toList with ⟨tc, hg0, hok0, hput0⟩ | ⟨hg0, hno0⟩
  case inr =>
    have HV : Hid (∀ d, MsOk d → d.kind = k → d.nonce = n → d.pos = o → d.fin = f → d.stage = s → d.num = u → l.drop p = tailM d → False) := Lib.hid (fun d hd h1 _ _ _ _ _ h7 => by
      obtain ⟨t1, t2⟩ := HTD.out d hd h1
      rw [t1] at h7
      exact hno0 _ t2 (HTX.out _ _ t2 h7).1.symm)
    unfold CGot at HGC
    rw [hg0] at HGC
    clear hg0 hno0
    go_wp2_with (first
      | (go_at_call 73; refine HGT.out.mono ?_; rintro e w5 ⟨rfl, rfl⟩)
      | (go_at_call 74; refine HGC.out.mono ?_; rintro e w5 ⟨v5, rfl, o5⟩; have HX65 := Lib.hid (HX62.out.later o5.below); have HB5 := Lib.hid (HB2.out.trans (o5.below.mono HB2.out.size)); have HX35 := Lib.hid (HX32.out.later o5.below); clear o5 y0 y1 y2 y3 y4 y5 y6 y7 y8 y9; obtain ⟨y0, y1, y2, y3, y4, y5, y6, y7, y8, y9⟩ := HX35.out.c10)
      | (refine wpList_rec rfl rfl P6 zeroMs #[.int .i64 k, .int .i64 n, .int .i64 o, .int .i64 f, .int .i64 s, .int .i64 u, .slice none 0 0, .slice none 0 0, .slice none 0 0, .slice none 0 0] rfl rfl HX65.out rfl (by kernel_rfl) (by kernel_rfl) ?_; intro w9 r1 r2 r3 r4))
    refine bodyPost_ret (results_ct rfl rfl r1 Try.underlying27 rfl (by kernel_rfl)) rfl ?_
    exact HQN.out ⟨k, n, o, f, s, u, [], [], [], []⟩ ⟨none, 0, 0, none, 0, 0, none, 0, 0, none, 0, 0⟩ _ (HB5.out.grown r4 HB5.out.size (fun q e => by cases e; have := HP6.out; omega)) (MsRows.nil _ ⟨k, n, o, f, s, u, [], [], [], []⟩ rfl rfl rfl rfl) ⟨NMs.none _, NMs.none _, NMs.none _⟩ HV.out
  case inl =>
  have HTC : Hid (∀ d x, ChOk d → l.drop p = textL (putC d) ++ x → tc = d ∧ qe = p + (textL (putC d)).length) := Lib.hid (fun d x hd hl => by
    obtain ⟨h1, h2, _⟩ := HTX.out d x hd hl
    rw [h1, getCh_some hd rfl] at hg0
    exact ⟨(Prod.mk.inj hg0).1.symm, h2⟩)
  unfold CGot at HGC
  rw [hg0] at HGC
  obtain ⟨mc, hmc⟩ : ∃ M, tc.length = M := ⟨_, rfl⟩
  have HMC := Lib.hid hmc
  clear hg0 hok0 hput0 hmc HTX
  go_upto_region 9 with (first
    | (go_at_call 73; refine HGT.out.mono ?_; rintro e w5 ⟨rfl, rfl⟩)
    | (go_at_call 74; refine HGC.out.mono ?_; rintro e w5 ⟨v5, rfl, o5⟩; have HX65 := Lib.hid (HX62.out.later o5.below); have HB5 := Lib.hid (HB2.out.trans (o5.below.mono HB2.out.size)); have HX35 := Lib.hid (HX32.out.later o5.below); obtain ⟨a5, c5, rfl, r5, f5⟩ := o5.row_far HMC.out; have HN5 := Lib.hid o5.nms; have HR5 := Lib.hid r5; have HF5 := Lib.hid f5; have HS2 : Hid (P6 < w2.heap.size) := Lib.hid HX62.out.lt; clear o5 r5 f5 y0 y1 y2 y3 y4 y5 y6 y7 y8 y9; obtain ⟨y0, y1, y2, y3, y4, y5, y6, y7, y8, y9⟩ := HX35.out.c10; obtain ⟨f6, f7, f8, f9⟩ := HX35.out.f10))
  have HX36 := Lib.hid (HX35.out.set 6 (.slice a5 mc c5))
  have HX66 := Lib.hid (HX65.out.other (y := P3) (by have := HP3.out; have := HP6.out; omega) 6 (.slice a5 mc c5))
  have HB6 := Lib.hid (HB5.out.setCell (p := ⟨P3, 6, none⟩) (by have := HP3.out; simp only; omega) (.slice a5 mc c5))
  have HR6 := Lib.hid (HR5.out.only (OnlyP.set w5 P3 6 (.slice a5 mc c5)) (fun x hx => by have h1 := HF5.out x hx; have h2 := HS2.out; have := HP3.out; have := HP6.out; omega))
  have HN6 := Lib.hid (HN5.out.only (OnlyP.set w5 P3 6 (.slice a5 mc c5)) HX35.out)
  have HF6 : Hid (∀ x, a5 = some x → w.heap.size + 2 ≤ x.block) := Lib.hid (fun x hx => by have h1 := HF5.out x hx; have h2 := HS2.out; have := HP6.out; omega)
  clear y0 y1 y2 y3 y4 y5 y6 y7 y8 y9 f6 f7 f8 f9 HX35 HX65 HB5 HR5 HF5 HX32 HX62 HB2 HX3 HX6 HGC HGT hcv
  generalize (w5.setCell ⟨P3, 6, none⟩ (.slice a5 mc c5)) = w6 at *
  simp only [List.setIfInBounds_toArray, List.set_cons_zero, List.set_cons_succ] at HX36
  obtain ⟨y0, y1, y2, y3, y4, y5, y6, y7, y8, y9⟩ := HX36.out.c10
  have HGM := Lib.hid (rgetMarks_any ad m c l qe w6 (HR.out.later HB6.out) HM.out hlen (by have := HQE.out; have := HM.out; omega))
  go_upto_region 25 with (go_at_call 76; refine HGM.out.mono ?_; rintro e w7 ⟨v7, q7, z7, us, rfl, o7, hu17, hq7, hus⟩; have HUS := Lib.hid hus; have HB7 := Lib.hid (HB6.out.trans (o7.below.mono HB6.out.size)); have HX37 := Lib.hid (HX36.out.later o7.below); have HX67 := Lib.hid (HX66.out.later o7.below); have HR7 := Lib.hid (HR6.out.later o7.below); obtain ⟨mu, hmu⟩ : ∃ M, us.length = M := ⟨_, rfl⟩; have HMU := Lib.hid hmu; obtain ⟨a7, c7, rfl, r7, f7'⟩ := o7.row_far mkOk hmu; have HRM := Lib.hid r7; have HN7 := Lib.hid (HN6.out.later o7.below); have HNM := Lib.hid (o7.nms (by decide)); have HF7 : Hid (∀ x, a7 = some x → w.heap.size + 2 ≤ x.block) := Lib.hid (fun x hx => by have h1 := f7' x hx; have h2 := HX66.out.lt; have := HP6.out; omega); clear o7 r7 f7' hus hmu hq7 hu17 y0 y1 y2 y3 y4 y5 y6 y7 y8 y9; obtain ⟨y0, y1, y2, y3, y4, y5, y6, y7, y8, y9⟩ := HX37.out.c10; obtain ⟨f6, f7, f8, f9⟩ := HX37.out.f10)
  have HMK : Hid (∀ d, MsOk d → d.kind = k → l.drop p = tailM d → z7 = true ∧ us = d.marks ∧ tc = d.chain) := Lib.hid (fun d hd h1 h7 => by
    obtain ⟨t1, t2⟩ := HTD.out d hd h1
    rw [t1] at h7
    obtain ⟨t3, t4⟩ := HTC.out _ _ t2 h7
    have e6 : l.drop qe = marksL d.marks ++ [] := by rw [t4, ← List.drop_drop, h7, List.drop_left, List.append_nil]
    have he2 := (hd.2.2.2.1 (by rw [h1]; exact HKX.out)).2
    obtain ⟨v1, v2, _⟩ := HUS.out d.marks ⟨⟨[], e6⟩, he2.2.1, fun t ht => ⟨(he2.mem t ht).in, (markL_len (he2.mem t ht).2.2.2.2).2⟩⟩
    exact ⟨v1, v2, t3⟩)
  cases z7 with
  | false =>
    have HV : Hid (∀ d, MsOk d → d.kind = k → d.nonce = n → d.pos = o → d.fin = f → d.stage = s → d.num = u → l.drop p = tailM d → False) := Lib.hid (fun d hd h1 _ _ _ _ _ h7 => by
      have := (HMK.out d hd h1 h7).1
      cases this)
    go_wp2_with (refine wpList_rec rfl rfl P6 zeroMs #[.int .i64 k, .int .i64 n, .int .i64 o, .int .i64 f, .int .i64 s, .int .i64 u, .slice a5 mc c5, .slice none 0 0, .slice none 0 0, .slice none 0 0] rfl rfl HX67.out rfl (by kernel_rfl) (by kernel_rfl) ?_; intro w9 r1 r2 r3 r4)
    refine bodyPost_ret (results_ct rfl rfl r1 Try.underlying27 rfl (by kernel_rfl)) rfl ?_
    exact HQN.out ⟨k, n, o, f, s, u, tc, [], [], []⟩ ⟨a5, mc, c5, none, 0, 0, none, 0, 0, none, 0, 0⟩ _ (HB7.out.grown r4 HB7.out.size (fun q e => by cases e; have := HP6.out; omega)) (MsRows.onlyN ⟨HR7.out, ERow.nil _, GRow.nil _ _, Row.empty _ _ _ (Nat.zero_le _) (fun _ => rfl), HMC.out, rfl, rfl, rfl⟩ ⟨HN7.out, NMs.none _, NMs.none _⟩ r3 HX67.out (noB8_ms _ _ _ _ _ _ _ _ _ _ _ _ _ _ _ _ _ _)) (MsNo.only ⟨HN7.out, NMs.none _, NMs.none _⟩ r3 HX67.out) HV.out
  | true =>
    go_upto_region 30 with fail
    have HX8 := Lib.hid (HX37.out.set 8 (.slice a7 mu c7))
    have HB8 := Lib.hid (HB7.out.setCell (p := ⟨P3, 8, none⟩) (by have := HP3.out; simp only; omega) (.slice a7 mu c7))
    have HX68 := Lib.hid (HX67.out.other (y := P3) (by have := HP3.out; have := HP6.out; omega) 8 (.slice a7 mu c7))
    have HRR : Hid (MsRows (w7.setCell ⟨P3, 8, none⟩ (.slice a7 mu c7)) ⟨k, n, o, f, s, u, tc, [], us, []⟩ ⟨a5, mc, c5, none, 0, 0, a7, mu, c7, none, 0, 0⟩) := Lib.hid ⟨HR7.out.only (OnlyP.set w7 P3 8 _) (fun x hx => by have h1 := HF6.out x hx; have := HP3.out; omega), ERow.nil _, HRM.out.only (OnlyP.set w7 P3 8 _) (fun x hx => by have h1 := HF7.out x hx; have := HP3.out; omega), Row.empty _ _ _ (Nat.zero_le _) (fun _ => rfl), HMC.out, rfl, HMU.out, rfl⟩
    have HNO : Hid (MsNo (w7.setCell ⟨P3, 8, none⟩ (.slice a7 mu c7)) ⟨a5, mc, c5, none, 0, 0, a7, mu, c7, none, 0, 0⟩) := Lib.hid (MsNo.only (w := w7) ⟨HN7.out, NMs.none _, HNM.out⟩ (OnlyP.set w7 P3 8 (.slice a7 mu c7)) HX37.out)
    have HFF : Hid (MsFar (w.heap.size + 2) ⟨a5, mc, c5, none, 0, 0, a7, mu, c7, none, 0, 0⟩) := Lib.hid (fun x hx => by
      rcases hx with h | h | h
      · exact HF6.out x h
      · cases h
      · exact HF7.out x h)
    have HG : Hid (∀ d, MsOk d → d.kind = k → d.nonce = n → d.pos = o → d.fin = f → d.stage = s → d.num = u → l.drop p = tailM d → (⟨k, n, o, f, s, u, tc, [], us, []⟩ : Ms) = d) := Lib.hid (fun d hd h1 h2 h3 h4 h5 h6 h7 => by
      obtain ⟨_, t1, t2⟩ := HMK.out d hd h1 h7
      have ek : d.kind = 4 := by rw [h1]; exact HKX.out
      have he : d.ents = [] := Classical.byContradiction fun h3 => by have := hd.2.1.2.2.2.2.2.1 h3; omega
      have hda : d.data = [] := data_nilN hd (by omega)
      obtain ⟨d0, d1, d2, d3, d4, d5, d6, d7, d8, d9⟩ := d
      simp only at h1 h2 h3 h4 h5 h6 t1 t2 he hda
      rw [h1, h2, h3, h4, h5, h6, t1, t2, he, hda])
    clear y0 y1 y2 y3 y4 y5 y6 y7 y8 y9 f6 f7 f8 f9
    generalize (w7.setCell ⟨P3, 8, none⟩ (.slice a7 mu c7)) = w8 at *
    simp only [List.setIfInBounds_toArray, List.set_cons_zero, List.set_cons_succ] at HX8
    obtain ⟨y0, y1, y2, y3, y4, y5, y6, y7, y8, y9⟩ := HX8.out.c10
    go_wp2_with (refine wpList_rec rfl rfl P6 zeroMs #[.int .i64 k, .int .i64 n, .int .i64 o, .int .i64 f, .int .i64 s, .int .i64 u, .slice a5 mc c5, .slice none 0 0, .slice a7 mu c7, .slice none 0 0] rfl rfl HX68.out rfl (by kernel_rfl) (by kernel_rfl) ?_; intro w9 r1 r2 r3 r4)
    refine bodyPost_ret (results_ct rfl rfl r1 Try.underlying27 rfl (by kernel_rfl)) rfl ?_
    exact HQY.out ⟨k, n, o, f, s, u, tc, [], us, []⟩ ⟨a5, mc, c5, none, 0, 0, a7, mu, c7, none, 0, 0⟩ _ (HB8.out.grown r4 HB8.out.size (fun q e => by cases e; have := HP6.out; omega)) (HRR.out.onlyN HNO.out r3 HX68.out (noB8_ms _ _ _ _ _ _ _ _ _ _ _ _ _ _ _ _ _ _)) (HNO.out.only r3 HX68.out) HG.out
end Go.Proofs.Ytiahifpbofkimaa
