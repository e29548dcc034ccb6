/- Maps with keys of any type, as functions from keys to elements with their number of entries: look-up, store, removal, number; over any program. Conditions: keys that read as literals, unlike keys as unlike ones; fewer entries than a length can be. -/
import Derived.Test.YtchlafhmoncldaaMem
import Derived.Maps.OwnOps
import Derived.Maps.OwnSet
import Derived.Maps.Ext
namespace Go.Proofs.Ytchlafhmoncldaa
open Go.RowKit Go.Maps Go.ChangeMaps Go.MapKept Go.WideShapes

abbrev VG := DataW Value
def anyG (v : Value) : Option (VG × List MemPlace) := some (.held v, [])
def heldG (o : Option Value) (z : VG) : VG := match o with | none => z | some v => .held v
theorem heldG_inj {a b : Value} (h : (DataW.held a : VG) = .held b) : a = b := by injection h
/-- how keys of a type lie and read. -/
structure KeyT (P : Program) (k : TypeId) {κ : Type} (val : κ → Value) (lit : κ → Lit) (ok : κ → Prop) : Prop where
  keyed : Keyed P k
  at_ : ∀ x, ok x → keyOf P k (val x) = some (lit x)
  inj : ∀ x y, ok x → ok y → lit x = lit y → x = y
section
variable {κ : Type}
def updG [DecidableEq κ] {α : Type} (f : κ → Option α) (x : κ) (o : Option α) : κ → Option α := fun y => if y = x then o else f y
theorem updG_same [DecidableEq κ] {α : Type} (f : κ → Option α) (x : κ) (o : Option α) : updG f x o x = o := if_pos rfl
theorem updG_other [DecidableEq κ] {α : Type} (f : κ → Option α) {x y : κ} (o : Option α) (h : y ≠ x) : updG f x o y = f y := if_neg h
/-- block b is the map f, of s entries. -/
def Kg (P : Program) (k : TypeId) (lit : κ → Lit) (ok : κ → Prop) (w : World) (b s : Nat) (f : κ → Option Value) : Prop :=
  ∃ D : VG, w.ownsMap P k anyG b s D ∧ Maps.size D = s ∧ ∀ x : κ, ok x → Maps.has D (lit x) = (f x).isSome ∧ ∀ z, D.atKey (lit x) z = heldG (f x) z
variable {P : Program} {k t e : TypeId} {w w' : World} {b s : Nat} {f : κ → Option Value} {C : Nat → Prop} {val : κ → Value} {lit : κ → Lit} {ok : κ → Prop}
theorem ownG_exact {R : Value → Option (VG × List MemPlace)} {n : Nat} {D : VG} (h : w.ownsMap P k R b n D) : w.ownsMap P k R b (Maps.size D) D := by
  obtain ⟨es, clock, hb, F, _, rfl⟩ := h
  exact ⟨es, clock, hb, F, by simp [Maps.size, length_sorted], rfl⟩
theorem Kg.lt (h : Kg P k lit ok w b s f) : b < w.heap.size := by
  obtain ⟨D, h, _⟩ := h
  exact h.lt
theorem Kg.fr (h : Kg P k lit ok w b s f) (hf : Fr C w w') (hn : ¬ C b) : Kg P k lit ok w' b s f := by
  obtain ⟨D, ⟨es, clock, hb, r⟩, h2⟩ := h
  exact ⟨D, ⟨es, clock, (hf.block b (Array.getElem?_eq_some_iff.1 hb).1 hn).trans hb, r⟩, h2⟩
theorem Kg.blk (h : Kg P k lit ok w b s f) : ∃ es clock, w.heap[b]? = some (.map es clock) := by
  obtain ⟨D, ⟨es, clock, hb, r⟩, h2⟩ := h
  exact ⟨es, clock, hb⟩
theorem Kg.ne (h : Kg P k lit ok w b s f) {g : Nat} {T : TypeId} {cs : Array Value} (hg : Bk w g T cs) : g ≠ b := fun e => by
  obtain ⟨es, clock, hb⟩ := h.blk
  unfold Bk at hg
  rw [e, hb] at hg
  cases hg
theorem Kg.new (w : World) : Kg P k lit ok (w.alloc (.map #[] 0)) w.heap.size 0 (fun _ => none) :=
  ⟨_, World.ownsMap_made _ _ _ _, rfl, fun _ _ => ⟨rfl, fun _ => rfl⟩⟩
theorem Kg.look (h : Kg P k lit ok w b s f) (hk : KeyT P k val lit ok) (ht : P.underlying t = some (.map k e)) {z : Value} (hz : (zeroValue e).run P w = .ok z w) {x : κ} (hx : ok x) :
    (Instr.lookup t (.map (some b)) (val x) true).run P w = .ok (.tuple #[(f x).getD z, .bool (f x).isSome]) w := by
  obtain ⟨D, h1, h2, h3⟩ := h
  obtain ⟨v, ps, hrun, hv⟩ := h1.look_ok hk.keyed ht hz (zd := .held z) (zp := []) rfl (hk.at_ x hx)
  injection hv with hv
  have hv := congrArg Prod.fst hv
  dsimp only at hv
  rw [hrun, (h3 x hx).1]
  rw [(h3 x hx).2] at hv
  cases hfx : f x with
  | none => rw [hfx] at hv; rw [heldG_inj hv]; rfl
  | some u => rw [hfx] at hv; rw [heldG_inj hv]; rfl
theorem Kg.look1 (h : Kg P k lit ok w b s f) (hk : KeyT P k val lit ok) (ht : P.underlying t = some (.map k e)) {z : Value} (hz : (zeroValue e).run P w = .ok z w) {x : κ} (hx : ok x) :
    (Instr.lookup t (.map (some b)) (val x) false).run P w = .ok ((f x).getD z) w := by
  obtain ⟨D, h1, h2, h3⟩ := h
  obtain ⟨v, ps, hrun, hv⟩ := h1.lookup hk.keyed ht hz (zd := .held z) (zp := []) rfl (hk.at_ x hx)
  injection hv with hv
  have hv := congrArg Prod.fst hv
  dsimp only at hv
  rw [hrun]
  rw [(h3 x hx).2] at hv
  cases hfx : f x with
  | none => rw [hfx] at hv; rw [heldG_inj hv]; rfl
  | some u => rw [hfx] at hv; rw [heldG_inj hv]; rfl
theorem Kg.len (h : Kg P k lit ok w b s f) (ht : P.underlying t = some (.map k e)) (ty : TypeId) : (Builtin.len_ #[t] ty #[.map (some b)]).run P w = .ok (.int .i64 s) w := by
  obtain ⟨D, h1, rfl, _⟩ := h
  exact h1.len ht ty
theorem Kg.put [DecidableEq κ] (h : Kg P k lit ok w b s f) (hk : KeyT P k val lit ok) (ht : P.underlying t = some (.map k e)) (hs : s < maxLen) {x : κ} (hx : ok x) (v : Value) :
    ∃ w', (Instr.mapUpdate t (.map (some b)) (val x) v).run P w = .ok () w' ∧ Kg P k lit ok w' b (if (f x).isSome then s else s + 1) (updG f x (some v)) ∧ Fr (fun j => j = b) w w' := by
  obtain ⟨D, h1, h2, h3⟩ := h
  obtain ⟨w', hrun, ho, hg⟩ := h1.update hk.keyed ht hs (hk.at_ x hx) (show anyG v = some (.held v, []) from rfl)
  have hsz : Maps.size (D.put (lit x) (.held v)) = if (f x).isSome then s else s + 1 := by
    rw [size_put (h1.tidy hk.keyed), (h3 x hx).1, h2]
  refine ⟨w', hrun, ⟨_, by have := ownG_exact ho; rwa [hsz] at this, hsz, fun y hy => ?_⟩, (Fr.ofGrown hg).mono fun i _ e => by injection e⟩
  by_cases e : y = x
  · subst e
    rw [updG_same]
    exact ⟨has_put_same h1.isMap (hk.keyed.key (hk.at_ y hx)) _, fun z => atKey_put_same h1.isMap (hk.keyed.key (hk.at_ y hx)) _ _⟩
  · rw [updG_other _ _ e]
    have hne : lit y ≠ lit x := fun h => e (hk.inj _ _ hy hx h)
    exact ⟨by rw [has_put_other hne]; exact (h3 y hy).1, fun z => by rw [atKey_put_other hne]; exact (h3 y hy).2 z⟩
theorem Kg.del [DecidableEq κ] (h : Kg P k lit ok w b s f) (hk : KeyT P k val lit ok) (ht : P.underlying t = some (.map k e)) {x : κ} (hx : ok x) (ty : TypeId) :
    ∃ w', (Builtin.delete_ #[t, k] ty #[.map (some b), val x]).run P w = .ok (.tuple #[]) w' ∧ Kg P k lit ok w' b (if (f x).isSome then s - 1 else s) (updG f x none) ∧ Fr (fun j => j = b) w w' := by
  obtain ⟨D, h1, h2, h3⟩ := h
  obtain ⟨w', hrun, ho, ht'⟩ := h1.drop hk.keyed ht (hk.at_ x hx) ty
  have hsz : Maps.size (D.del (lit x)) = if (f x).isSome then s - 1 else s := by
    have := size_del (k := lit x) (h1.tidy hk.keyed)
    rw [(h3 x hx).1, h2] at this
    split at this <;> split <;> first | omega | simp_all
  refine ⟨w', hrun, ⟨_, by have := ownG_exact ho; rwa [hsz] at this, hsz, fun y hy => ?_⟩, (Fr.ofGrown ht'.grown).mono fun i _ e => by injection e⟩
  by_cases e : y = x
  · subst e
    rw [updG_same]
    exact ⟨has_del_same, fun z => atKey_del_same z⟩
  · rw [updG_other _ _ e]
    have hne : lit y ≠ lit x := fun h => e (hk.inj _ _ hy hx h)
    exact ⟨by rw [has_del_other hne]; exact (h3 y hy).1, fun z => by rw [atKey_del_other hne]; exact (h3 y hy).2 z⟩
end
/-- keys of a type string. -/
theorem strKeyT {P : Program} {k : TypeId} (hk : P.underlying k = some .string) : KeyT P k (fun l : List UInt8 => .string ⟨l.toArray⟩) (fun l => .string l) (fun l => l.length ≤ maxLen) :=
  ⟨string_keyed hk, fun x hx => by
    have := WideMaps.keyOf_string_mk (P := P) hk (s := ⟨x.toArray⟩) (by simpa [ByteArray.size] using hx)
    simpa using this, fun x y _ _ h => by injection h⟩
end Go.Proofs.Ytchlafhmoncldaa
