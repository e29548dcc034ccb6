/- Maps with keys of type int and elements of any type, as functions from numbers to elements with their number of entries: look-up, store, removal, clearing, number; over any program. Conditions: keys are numbers of the type int; fewer entries than a length can be. -/
import Derived.Test.YtlajhnplkfiiiaaMem
import Derived.Maps.OwnOps
import Derived.Maps.OwnSet
import Derived.Maps.Ext
namespace Go.Proofs.Ytlajhnplkfiiiaa
open Go.RowKit Go.Maps Go.ChangeMaps Go.MapKept Go.WideShapes

abbrev VD := DataW Value
def anyE (v : Value) : Option (VD × List MemPlace) := some (.held v, [])
def heldO (o : Option Value) (z : VD) : VD := match o with | none => z | some v => .held v
theorem held_inj {a b : Value} (h : (DataW.held a : VD) = .held b) : a = b := by injection h
def wf64 (x : Int) : Prop := (Lit.int .i64 x).wf = true
theorem wf64_of {x : Int} (h : -9223372036854775808 ≤ x ∧ x ≤ 9223372036854775807) : wf64 x := by
  simp only [wf64, Lit.wf, Bool.and_eq_true, decide_eq_true_eq, show IntKind.min .i64 = -9223372036854775808 from by decide, show IntKind.max .i64 = 9223372036854775807 from by decide]
  omega
def updK {α : Type} (f : Int → Option α) (x : Int) (o : Option α) : Int → Option α := fun y => if y = x then o else f y
theorem updK_same {α : Type} (f : Int → Option α) (x : Int) (o : Option α) : updK f x o x = o := if_pos rfl
theorem updK_other {α : Type} (f : Int → Option α) {x y : Int} (o : Option α) (h : y ≠ x) : updK f x o y = f y := if_neg h

theorem updK_map {α : Type} (g : α → Value) (f : Int → Option α) (x : Int) (o : Option α) (y : Int) : (updK f x o y).map g = updK (fun z => (f z).map g) x (o.map g) y := by
  unfold updK
  split <;> rfl

/-- block b is the map f, of s entries. -/
def Km (P : Program) (k : TypeId) (w : World) (b s : Nat) (f : Int → Option Value) : Prop :=
  ∃ D : VD, w.ownsMap P k anyE b s D ∧ Maps.size D = s ∧ ∀ x : Int, wf64 x → Maps.has D (.int .i64 x) = (f x).isSome ∧ ∀ z, D.atKey (.int .i64 x) z = heldO (f x) z

section
variable {P : Program} {k t e : TypeId} {w w' : World} {b s : Nat} {f : Int → Option Value} {C : Nat → Prop}
theorem own_exact {R : Value → Option (VD × List MemPlace)} {n : Nat} {D : VD} (h : w.ownsMap P k R b n D) : w.ownsMap P k R b (Maps.size D) D := by
  obtain ⟨es, clock, hb, F, _, rfl⟩ := h
  exact ⟨es, clock, hb, F, by simp [Maps.size, length_sorted], rfl⟩
theorem key_ne {x y : Int} (h : y ≠ x) : (Lit.int .i64 y) ≠ (Lit.int .i64 x) := fun e => by injection e with _ e; exact h e
theorem Km.lt (h : Km P k w b s f) : b < w.heap.size := by
  obtain ⟨D, h, _⟩ := h
  exact h.lt
theorem Km.fr (h : Km P k w b s f) (hf : Fr C w w') (hn : ¬ C b) : Km P k w' b s f := by
  obtain ⟨D, ⟨es, clock, hb, r⟩, h2⟩ := h
  exact ⟨D, ⟨es, clock, (hf.block b (Array.getElem?_eq_some_iff.1 hb).1 hn).trans hb, r⟩, h2⟩
theorem Km.congr (h : Km P k w b s f) {g : Int → Option Value} (hg : ∀ x, wf64 x → g x = f x) : Km P k w b s g := by
  obtain ⟨D, h1, h2, h3⟩ := h
  exact ⟨D, h1, h2, fun x hx => by rw [hg x hx]; exact h3 x hx⟩
theorem Km.new (w : World) : Km P k (w.alloc (.map #[] 0)) w.heap.size 0 (fun _ => none) :=
  ⟨_, World.ownsMap_made _ _ _ _, rfl, fun _ _ => ⟨rfl, fun _ => rfl⟩⟩
theorem Km.look (h : Km P k w b s f) (hk : P.underlying k = some (.int .i64)) (ht : P.underlying t = some (.map k e)) {z : Value} (hz : (zeroValue e).run P w = .ok z w) {x : Int} (hx : wf64 x) :
    (Instr.lookup t (.map (some b)) (.int .i64 x) true).run P w = .ok (.tuple #[(f x).getD z, .bool (f x).isSome]) w := by
  obtain ⟨D, h1, h2, h3⟩ := h
  obtain ⟨v, ps, hrun, hv⟩ := h1.look_ok (int_keyed hk) ht hz (zd := .held z) (zp := []) rfl (keyOf_int_mk hk hx)
  injection hv with hv
  have hv := congrArg Prod.fst hv
  dsimp only at hv
  rw [hrun, (h3 x hx).1]
  rw [(h3 x hx).2] at hv
  cases hfx : f x with
  | none => rw [hfx] at hv; rw [held_inj hv]; rfl
  | some u => rw [hfx] at hv; rw [held_inj hv]; rfl
theorem Km.look1 (h : Km P k w b s f) (hk : P.underlying k = some (.int .i64)) (ht : P.underlying t = some (.map k e)) {z : Value} (hz : (zeroValue e).run P w = .ok z w) {x : Int} (hx : wf64 x) :
    (Instr.lookup t (.map (some b)) (.int .i64 x) false).run P w = .ok ((f x).getD z) w := by
  obtain ⟨D, h1, h2, h3⟩ := h
  obtain ⟨v, ps, hrun, hv⟩ := h1.lookup (int_keyed hk) ht hz (zd := .held z) (zp := []) rfl (keyOf_int_mk hk hx)
  injection hv with hv
  have hv := congrArg Prod.fst hv
  dsimp only at hv
  rw [hrun]
  rw [(h3 x hx).2] at hv
  cases hfx : f x with
  | none => rw [hfx] at hv; rw [held_inj hv]; rfl
  | some u => rw [hfx] at hv; rw [held_inj hv]; rfl
theorem Km.len (h : Km P k w b s f) (ht : P.underlying t = some (.map k e)) (ty : TypeId) : (Builtin.len_ #[t] ty #[.map (some b)]).run P w = .ok (.int .i64 s) w := by
  obtain ⟨D, h1, rfl, _⟩ := h
  exact h1.len ht ty
theorem Km.put (h : Km P k w b s f) (hk : P.underlying k = some (.int .i64)) (ht : P.underlying t = some (.map k e)) (hs : s < maxLen) {x : Int} (hx : wf64 x) (v : Value) :
    ∃ w', (Instr.mapUpdate t (.map (some b)) (.int .i64 x) v).run P w = .ok () w' ∧ Km P k w' b (if (f x).isSome then s else s + 1) (updK f x (some v)) ∧ Fr (fun j => j = b) w w' := by
  obtain ⟨D, h1, h2, h3⟩ := h
  obtain ⟨w', hrun, ho, hg⟩ := h1.update (int_keyed hk) ht hs (keyOf_int_mk hk hx) (show anyE v = some (.held v, []) from rfl)
  have hsz : Maps.size (D.put (.int .i64 x) (.held v)) = if (f x).isSome then s else s + 1 := by
    rw [size_put (h1.tidy (int_keyed hk)), (h3 x hx).1, h2]
  refine ⟨w', hrun, ⟨_, by have := own_exact ho; rwa [hsz] at this, hsz, fun y hy => ?_⟩, (Fr.ofGrown hg).mono fun i _ e => by injection e⟩
  by_cases e : y = x
  · subst e
    rw [updK_same]
    exact ⟨has_put_same h1.isMap ((int_keyed hk).key (keyOf_int_mk hk hx)) _, fun z => atKey_put_same h1.isMap ((int_keyed hk).key (keyOf_int_mk hk hx)) _ _⟩
  · rw [updK_other _ _ e]
    exact ⟨by rw [has_put_other (key_ne e)]; exact (h3 y hy).1, fun z => by rw [atKey_put_other (key_ne e)]; exact (h3 y hy).2 z⟩
theorem Km.del (h : Km P k w b s f) (hk : P.underlying k = some (.int .i64)) (ht : P.underlying t = some (.map k e)) {x : Int} (hx : wf64 x) (ty : TypeId) :
    ∃ w', (Builtin.delete_ #[t, k] ty #[.map (some b), .int .i64 x]).run P w = .ok (.tuple #[]) w' ∧ Km P k w' b (if (f x).isSome then s - 1 else s) (updK f x none) ∧ Fr (fun j => j = b) w w' := by
  obtain ⟨D, h1, h2, h3⟩ := h
  obtain ⟨w', hrun, ho, ht'⟩ := h1.drop (int_keyed hk) ht (keyOf_int_mk hk hx) ty
  have hsz : Maps.size (D.del (.int .i64 x)) = if (f x).isSome then s - 1 else s := by
    have := size_del (k := .int .i64 x) (h1.tidy (int_keyed hk))
    rw [(h3 x hx).1, h2] at this
    split at this <;> split <;> first | omega | simp_all
  refine ⟨w', hrun, ⟨_, by have := own_exact ho; rwa [hsz] at this, hsz, fun y hy => ?_⟩, (Fr.ofGrown ht'.grown).mono fun i _ e => by injection e⟩
  by_cases e : y = x
  · subst e
    rw [updK_same]
    exact ⟨has_del_same, fun z => atKey_del_same z⟩
  · rw [updK_other _ _ e]
    exact ⟨by rw [has_del_other (key_ne e)]; exact (h3 y hy).1, fun z => by rw [atKey_del_other (key_ne e)]; exact (h3 y hy).2 z⟩
theorem Km.clear_ (h : Km P k w b s f) (ht : P.underlying t = some (.map k e)) (ty : TypeId) :
    ∃ w', (Builtin.clear_ #[t] ty #[.map (some b)]).run P w = .ok (.tuple #[]) w' ∧ Km P k w' b 0 (fun _ => none) ∧ Fr (fun j => j = b) w w' := by
  obtain ⟨D, ⟨es, clock, hb, F, hs, hD⟩, _⟩ := h
  refine ⟨setBlock w b (.map #[] clock), ?_, ⟨.map [], ⟨#[], clock, heap_setBlock_same hb _, ⟨by simp, stamped_empty _, by simp⟩, Nat.le_refl _, rfl⟩, rfl, fun _ _ => ⟨rfl, fun _ => rfl⟩⟩, ⟨rfl, rfl, rfl, by simp [setBlock], fun i _ hi => heap_setBlock_other hb _ hi⟩⟩
  simp [Builtin.clear_, run_underlying ht, MapKept.run_getObj_map hb, MapKept.run_setObj_map _ hb, Result.andThen, setBlock]
end
end Go.Proofs.Ytlajhnplkfiiiaa
