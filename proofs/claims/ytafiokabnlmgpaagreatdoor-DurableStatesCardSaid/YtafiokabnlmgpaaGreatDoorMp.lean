/- The map from names to files, as a rising list of names with the files' blocks: look-up, store, removal, number. No condition but lengths. -/
import Derived.Test.YtafiokabnlmgpaaGreatDoorTexts
import Derived.Maps.RangeWalk
import Derived.Maps.OwnSet
import Derived.Maps.Ext
namespace Go.Proofs.YtafiokabnlmgpaaGreatDoor
open Go.RowKit Go.Maps

abbrev DW := DataW Unit
def ptV : Option Nat → Value
  | none => .pointer none
  | some g => .pointer (some ⟨g, 0, none⟩)
def ptD : Option Nat → DW
  | none => .nil
  | some g => .lit (.int .i64 g)
def ptE : Value → Option (DW × List MemPlace)
  | .pointer none => some (.nil, [])
  | .pointer (some ⟨g, 0, none⟩) => some (.lit (.int .i64 g), [])
  | _ => none
theorem ptE_mk (o : Option Nat) : ptE (ptV o) = some (ptD o, []) := by cases o <;> rfl
theorem ptE_inv {v : Value} {y : DW × List MemPlace} (h : ptE v = some y) : ∃ o, v = ptV o ∧ y = (ptD o, []) := by
  unfold ptE at h
  split at h
  · injection h with h; exact ⟨none, rfl, h.symm⟩
  · rename_i g
    injection h with h; exact ⟨some g, rfl, h.symm⟩
  · cases h
theorem ptD_inj {a b : Option Nat} (h : ptD a = ptD b) : a = b := by
  cases a <;> cases b
  · rfl
  · cases h
  · cases h
  · injection h with h
    injection h with _ h
    rw [Int.ofNat.inj h]

abbrev Fs := List (Bs × Nat)
def ent (p : Bs × Nat) : Lit × DW := (.string p.1, ptD (some p.2))
def mapD (fs : Fs) : DW := .map (fs.map ent)
def look : Fs → Bs → Option Nat
  | [], _ => none
  | p :: t, k => if p.1 = k then some p.2 else look t k
def insF (x : Bs × Nat) : Fs → Fs
  | [] => [x]
  | y :: r => if Op.bytesLess x.1 y.1 then x :: y :: r else y :: insF x r
def delF (fs : Fs) (k : Bs) : Fs := fs.filter fun p => !decide (p.1 = k)
def putF (fs : Fs) (k : Bs) (g : Nat) : Fs := insF (k, g) (delF fs k)

theorem before_less (a b : Bs) : bytesBefore a b = Op.bytesLess a b := by
  induction a generalizing b with
  | nil => cases b <;> rfl
  | cons x t ih =>
    cases b with
    | nil => rfl
    | cons y s => simp only [bytesBefore, Op.bytesLess, ih]
theorem same_str (a b : Bs) : (Lit.string a).sameKey (.string b) = decide (a = b) := by
  simp only [Lit.sameKey]
  by_cases h : a = b
  · simp [h]
  · rw [decide_eq_false h, beq_eq_false_iff_ne]; exact h
theorem mapD_atKey (fs : Fs) (k : Bs) (z : DW) : (mapD fs).atKey (.string k) z = match look fs k with | some g => ptD (some g) | none => z := by
  unfold mapD DataW.atKey
  induction fs with
  | nil => rfl
  | cons p t ih =>
    simp only [List.map_cons, List.find?_cons, ent, same_str, look]
    by_cases h : p.1 = k
    · simp [h]
    · rw [decide_eq_false h, if_neg h]
      exact ih
theorem mapD_has (fs : Fs) (k : Bs) : Maps.has (mapD fs) (.string k) = (look fs k).isSome := by
  unfold mapD
  rw [Maps.has_eq]
  induction fs with
  | nil => rfl
  | cons p t ih =>
    simp only [List.map_cons, List.any_cons, ent, same_str, look]
    by_cases h : p.1 = k
    · simp [h]
    · rw [decide_eq_false h, if_neg h, Bool.false_or]
      exact ih
theorem mapD_size (fs : Fs) : Maps.size (mapD fs) = fs.length := by simp [mapD, Maps.size]
theorem ent_ins (x : Bs × Nat) (fs : Fs) : DataW.insert (ent x) (fs.map ent) = (insF x fs).map ent := by
  induction fs with
  | nil => rfl
  | cons p t ih =>
    simp only [List.map_cons, DataW.insert, insF]
    have e : (ent x).1.before (ent p).1 = Op.bytesLess x.1 p.1 := before_less _ _
    rw [e]
    by_cases h : Op.bytesLess x.1 p.1 = true
    · rw [if_pos h, if_pos h]; rfl
    · rw [if_neg h, if_neg h, ih]; rfl
theorem ent_del (fs : Fs) (k : Bs) : (fs.map ent).filter (fun p => !p.1.sameKey (.string k)) = (delF fs k).map ent := by
  unfold delF
  rw [List.filter_map]
  congr 1
  apply List.filter_congr
  intro p _
  show (!(Lit.string p.1).sameKey (.string k)) = _
  rw [same_str]
theorem mapD_put (fs : Fs) (k : Bs) (g : Nat) : (mapD fs).put (.string k) (ptD (some g)) = mapD (putF fs k g) := by
  unfold mapD DataW.put
  simp only
  rw [ent_del]
  exact congrArg DataW.map (ent_ins (k, g) (delF fs k))
theorem mapD_del (fs : Fs) (k : Bs) : (mapD fs).del (.string k) = mapD (delF fs k) := by
  unfold mapD DataW.del
  simp only
  rw [ent_del]

theorem exact_map {w : World} {b n : Nat} {D : DW} {k : TypeId} {R : Value → Option (DW × List MemPlace)} (h : w.ownsMap Tryz.prog k R b n D) : w.ownsMap Tryz.prog k R b (Maps.size D) D := by
  obtain ⟨es, clock, hb, F, _, rfl⟩ := h
  exact ⟨es, clock, hb, F, by simp [Maps.size, length_sorted], rfl⟩

/-- block bm is the map fs. -/
def Mp (w : World) (bm : Nat) (fs : Fs) : Prop := w.ownsMap Tryz.prog 9 ptE bm fs.length (mapD fs)
theorem law : Keyed Tryz.prog 9 := string_keyed Tryz.underlying9
theorem zeroE (w : World) : (zeroValue 106).run Tryz.prog w = .ok (.pointer none) w := by kernel_rfl
theorem keyOf_st (k : Bs) (hk : k.length ≤ maxLen) : keyOf Tryz.prog 9 (.string (bstr k)) = some (.string k) := by
  have := Go.WideMaps.keyOf_string_mk (P := Tryz.prog) Tryz.underlying9 (s := bstr k) (by rw [bstr_size]; exact hk)
  rw [bstr_data] at this
  exact this

section
variable {C : Nat → Prop} {w w' : World} {bm : Nat} {fs : Fs}
theorem Mp.lt (h : Mp w bm fs) : bm < w.heap.size := World.ownsMap.lt h
theorem Mp.fr (h : Mp w bm fs) (hf : Fr C w w') (hn : ¬ C bm) : Mp w' bm fs := by
  obtain ⟨es, clock, hb, F, hs, hD⟩ := h
  exact ⟨es, clock, (hf.block bm (Array.getElem?_eq_some_iff.1 hb).1 hn).trans hb, F, hs, hD⟩
theorem Mp.up (h : Mp w bm fs) : Up (fs.map (·.1)) := by
  obtain ⟨es, he, hp, _⟩ := World.ownsMap.canon h law
  injection he with he
  rw [← he, List.pairwise_map] at hp
  rw [Up, List.pairwise_map]
  exact hp.imp fun h => by rw [← before_less]; exact h
theorem Mp.look (h : Mp w bm fs) (k : Bs) (hk : k.length ≤ maxLen) : (Instr.lookup 103 (.map (some bm)) (.string (bstr k)) false).run Tryz.prog w = .ok (ptV (look fs k)) w := by
  obtain ⟨v, ps, hrun, hv⟩ := World.ownsMap.lookup h law Tryz.underlying103 (zeroE w) (ptE_mk none) (keyOf_st k hk)
  obtain ⟨o, rfl, ho⟩ := ptE_inv hv
  have ho := congrArg Prod.fst ho
  have e : o = YtafiokabnlmgpaaGreatDoor.look fs k := by
    apply ptD_inj
    rw [← show (mapD fs).atKey (.string k) (ptD none) = ptD o from ho, mapD_atKey]
    cases YtafiokabnlmgpaaGreatDoor.look fs k <;> rfl
  rw [hrun, e]
theorem Mp.len (h : Mp w bm fs) (ty : TypeId) : (Builtin.len_ #[103] ty #[.map (some bm)]).run Tryz.prog w = .ok (.int .i64 fs.length) w := by
  have := World.ownsMap.len h Tryz.underlying103 ty
  rwa [mapD_size] at this
theorem Mp.put (h : Mp w bm fs) (k : Bs) (hk : k.length ≤ maxLen) (hl : fs.length ≤ 1000) (g : Nat) :
    ∃ w', (Instr.mapUpdate 103 (.map (some bm)) (.string (bstr k)) (.pointer (some ⟨g, 0, none⟩))).run Tryz.prog w = .ok () w' ∧ Mp w' bm (putF fs k g) ∧ Fr (fun j => j = bm) w w' := by
  obtain ⟨w', hrun, ho, hg⟩ := World.ownsMap.update h law Tryz.underlying103 (by unfold maxLen; omega) (keyOf_st k hk) (ptE_mk (some g))
  refine ⟨w', hrun, ?_, (Fr.ofGrown hg).mono fun i _ e => by injection e⟩
  rw [mapD_put] at ho
  have := exact_map ho
  rwa [mapD_size] at this
theorem Mp.del (h : Mp w bm fs) (k : Bs) (hk : k.length ≤ maxLen) (ty : TypeId) :
    ∃ w', (Builtin.delete_ #[103, 9] ty #[.map (some bm), .string (bstr k)]).run Tryz.prog w = .ok (.tuple #[]) w' ∧ Mp w' bm (delF fs k) ∧ Fr (fun j => j = bm) w w' := by
  obtain ⟨w', hrun, ho, ht⟩ := World.ownsMap.drop h law Tryz.underlying103 (keyOf_st k hk) ty
  refine ⟨w', hrun, ?_, (Fr.ofGrown ht.grown).mono fun i _ e => by injection e⟩
  rw [mapD_del] at ho
  have := exact_map ho
  rwa [mapD_size] at this
theorem Mp.new (w : World) : Mp (w.alloc (.map #[] 0)) w.heap.size [] := World.ownsMap_made _ _ _ _
end
end Go.Proofs.YtafiokabnlmgpaaGreatDoor
