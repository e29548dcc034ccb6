/- Opening an argument that is a slice of slices of bytes. No condition. -/
import Derived.Test.YtokonhcphhpogaaDoorOpen
import Derived.Test.YtokonhcphhpogaaDoorFrame
import Derived.Deep.Slices
import Derived.Deep.Fields
namespace Go.Proofs.YtokonhcphhpogaaDoor
open Go.ChangeShapes Go.WideShapes Go.ChangeAt Go.RowKit Go.WideMaps Go.WideElems

set_option maxRecDepth 100000 in
theorem bytes_of_trod {H : Type} {enc : TypeId × Value → H} {W : World} {fuel : Nat} {v : Value} {x : DataW H × List MemPlace}
    (hd : DataW.trod enc Tryd.prog W 0 (fun _ => true) true fuel 22 [v] = some x) :
    ∃ p : Prt, v = sl p ∧ Part W p ∧ p.2.2.length ≤ p.2.1 ∧ p.2.1 ≤ maxLen := by
  rcases open_ints Tryd.underlying22 Tryd.underlying5 (by kernel_rfl) hd with ⟨hcs, hx⟩ | ⟨a, len', cap', zs, hcs, _, hl, hm, hz, hx, hcell, hwz⟩
  · injection hcs with h1
    subst h1
    exact ⟨(none, 0, []), rfl, ⟨Rd.none_ _ _, fun _ => rfl⟩, Nat.le_refl _, by decide⟩
  · injection hcs with h1
    subst h1
    simp only [if_true] at hz
    obtain ⟨l, hl2⟩ := bytes_of_ints (zs.take len') (fun z hz' => hwz z (List.mem_of_mem_take hz'))
    have hll : l.length = len' := by
      have := congrArg List.length hl2
      rw [List.length_take, List.length_map] at this
      omega
    refine ⟨(some a, cap', l), by unfold sl; rw [hll], ⟨?_, fun h => by cases h⟩, by show l.length ≤ cap'; omega, hm⟩
    show Rd W (some a) (cb l)
    intro hpos
    rw [cb_length] at hpos
    have hspot : a.spot = none := by
      have h0 := hcell 0 (by omega)
      rw [show a.add 0 = a from by simp [Addr.add]] at h0
      unfold World.cell? at h0
      split at h0
      · split at h0
        · cases h0
        · rename_i h1 h2
          cases hs : a.spot with
          | none => rfl
          | some s => simp [hs] at h2
      · cases h0
    obtain ⟨b, o, s⟩ := a
    simp only at hspot
    subst hspot
    refine ⟨b, o, rfl, fun j u hu => ?_⟩
    have hj := (List.getElem?_eq_some_iff.1 hu).1
    rw [cb_length] at hj
    have h1 := hcell j (by omega)
    rw [show (⟨b, o, none⟩ : Addr).add j = ⟨b, o + j, none⟩ from by unfold Addr.add; split <;> simp_all] at h1
    rw [h1, ← hu]
    have h2 : (zs.take len')[j]? = (l.map fun x => ((x.toNat : Nat) : Int))[j]? := by rw [hl2]
    rw [List.getElem?_take, if_pos (by omega), List.getElem?_map, List.getElem?_eq_getElem hj] at h2
    unfold cb
    rw [List.getD_eq_getElem?_getD, h2, List.getElem?_map, List.getElem?_eq_getElem hj]
    rfl

set_option maxRecDepth 100000 in
theorem open_rows {H : Type} {enc : TypeId × Value → H} {W : World} {r : Reach} {base : Nat} {v : Value} {d : DataW H} {p : List MemPlace}
    (hv : Value.okWide Tryd.prog W r base 119 v) (hd : DataW.Trod enc Tryd.prog W 0 (fun _ => true) true 119 v d p) :
    ∃ (A : Option Addr) (c : Nat) (ps : List Prt), v = .slice A ps.length c ∧ Rd W A (ps.map sl) ∧ (∀ p ∈ ps, Part W p ∧ p.2.2.length ≤ p.2.1 ∧ p.2.1 ≤ maxLen) ∧ ps.length ≤ c ∧ c ≤ maxLen := by
  obtain ⟨a0, len, cap, rfl⟩ := okWide_slice Tryd.underlying119 hv
  obtain ⟨fuel, hf⟩ := hd
  rcases Deep.open_slice1 Tryd.underlying119 (by kernel_rfl) hf with ⟨hcs, hx⟩ | ⟨a, len', cap', m, n, V, D, Pl, hcs, _, hl, hm, hmm, hx, hel⟩
  · have hcs' : Value.slice a0 len cap = .slice none 0 0 := by simpa [Value.cells] using hcs
    injection hcs' with h1 h2 h3
    subst h1 h2 h3
    exact ⟨none, 0, [], rfl, Rd.none_ _ _, (fun _ h => by cases h), Nat.le_refl _, by decide⟩
  · have hcs' : Value.slice a0 len cap = .slice (some a) len' cap' := by simpa [Value.cells] using hcs
    injection hcs' with h1 h2 h3
    subst h1 h2 h3
    simp only [if_true] at hmm
    have hex : ∀ i, i < len → ∃ p : Prt, V i = sl p ∧ Part W p ∧ p.2.2.length ≤ p.2.1 ∧ p.2.1 ≤ maxLen := fun i hi => bytes_of_trod (hel i (by omega)).2
    have hps : ∀ n, n ≤ len → ∃ ps : List Prt, ps.length = n ∧ (∀ i, i < n → (ps.map sl)[i]? = some (V i)) ∧ ∀ p ∈ ps, Part W p ∧ p.2.2.length ≤ p.2.1 ∧ p.2.1 ≤ maxLen := by
      intro n
      induction n with
      | zero => intro _; exact ⟨[], rfl, fun i h => absurd h (by omega), fun _ h => by cases h⟩
      | succ n ih =>
        intro hn
        obtain ⟨ps, h1, h2, h3⟩ := ih (by omega)
        obtain ⟨p, hp1, hp2⟩ := hex n (by omega)
        refine ⟨ps ++ [p], by rw [List.length_append, h1]; rfl, ?_, ?_⟩
        · intro i hi
          rw [List.map_append]
          by_cases h : i < n
          · rw [List.getElem?_append_left (by rw [List.length_map]; omega)]
            exact h2 i h
          · rw [List.getElem?_append_right (by rw [List.length_map]; omega), List.length_map, show i - ps.length = 0 by omega, show i = n by omega, hp1]
            rfl
        · intro q hq
          rcases List.mem_append.1 hq with h | h
          · exact h3 q h
          · rw [List.mem_singleton.1 h]; exact hp2
    obtain ⟨ps, hp1, hp2, hp3⟩ := hps len (Nat.le_refl _)
    refine ⟨some a, cap, ps, by rw [hp1], ?_, hp3, by omega, hm⟩
    intro hpos
    rw [List.length_map] at hpos
    have hspot : a.spot = none := by
      have h0 := (hel 0 (by omega)).1
      rw [show a.add 0 = a from by simp [Addr.add]] at h0
      unfold World.cell? at h0
      split at h0
      · split at h0
        · cases h0
        · rename_i h1 h2
          cases hs : a.spot with
          | none => rfl
          | some s => simp [hs] at h2
      · cases h0
    obtain ⟨b, o, s⟩ := a
    simp only at hspot
    subst hspot
    refine ⟨b, o, rfl, fun j u hu => ?_⟩
    have hj := (List.getElem?_eq_some_iff.1 hu).1
    rw [List.length_map] at hj
    have h1 := (hel j (by omega)).1
    rw [show (⟨b, o, none⟩ : Addr).add j = ⟨b, o + j, none⟩ from by unfold Addr.add; split <;> simp_all] at h1
    rw [h1, ← hu, hp2 j (by omega)]
set_option maxRecDepth 100000 in
theorem rows_of_trod {H : Type} {enc : TypeId × Value → H} {W : World} {fuel : Nat} {v : Value} {x : DataW H × List MemPlace}
    (hf : DataW.trod enc Tryd.prog W 0 (fun _ => true) true fuel 119 [v] = some x) :
    ∃ (A : Option Addr) (c : Nat) (ps : List Prt), v = .slice A ps.length c ∧ Rd W A (ps.map sl) ∧ (∀ p ∈ ps, Part W p ∧ p.2.2.length ≤ p.2.1 ∧ p.2.1 ≤ maxLen) ∧ ps.length ≤ c ∧ c ≤ maxLen ∧ (A = none → c = 0) := by
  rcases Deep.open_slice1 Tryd.underlying119 (by kernel_rfl) hf with ⟨hcs, hx⟩ | ⟨a, len', cap', m, n, V, D, Pl, hcs, _, hl, hm, hmm, hx, hel⟩
  · injection hcs with h1
    subst h1
    exact ⟨none, 0, [], rfl, Rd.none_ _ _, (fun _ h => by cases h), Nat.le_refl _, by decide, fun _ => rfl⟩
  · injection hcs with h1
    subst h1
    simp only [if_true] at hmm
    have hex : ∀ i, i < len' → ∃ p : Prt, V i = sl p ∧ Part W p ∧ p.2.2.length ≤ p.2.1 ∧ p.2.1 ≤ maxLen := fun i hi => bytes_of_trod (hel i (by omega)).2
    have hps : ∀ n, n ≤ len' → ∃ ps : List Prt, ps.length = n ∧ (∀ i, i < n → (ps.map sl)[i]? = some (V i)) ∧ ∀ p ∈ ps, Part W p ∧ p.2.2.length ≤ p.2.1 ∧ p.2.1 ≤ maxLen := by
      intro n
      induction n with
      | zero => intro _; exact ⟨[], rfl, fun i h => absurd h (by omega), fun _ h => by cases h⟩
      | succ n ih =>
        intro hn
        obtain ⟨ps, h1, h2, h3⟩ := ih (by omega)
        obtain ⟨p, hp1, hp2⟩ := hex n (by omega)
        refine ⟨ps ++ [p], by rw [List.length_append, h1]; rfl, ?_, ?_⟩
        · intro i hi
          rw [List.map_append]
          by_cases h : i < n
          · rw [List.getElem?_append_left (by rw [List.length_map]; omega)]
            exact h2 i h
          · rw [List.getElem?_append_right (by rw [List.length_map]; omega), List.length_map, show i - ps.length = 0 by omega, show i = n by omega, hp1]
            rfl
        · intro q hq
          rcases List.mem_append.1 hq with h | h
          · exact h3 q h
          · rw [List.mem_singleton.1 h]; exact hp2
    obtain ⟨ps, hp1, hp2, hp3⟩ := hps len' (Nat.le_refl _)
    refine ⟨some a, cap', ps, by rw [hp1], ?_, hp3, by omega, hm, fun h => by cases h⟩
    intro hpos
    rw [List.length_map] at hpos
    have hspot : a.spot = none := by
      have h0 := (hel 0 (by omega)).1
      rw [show a.add 0 = a from by simp [Addr.add]] at h0
      unfold World.cell? at h0
      split at h0
      · split at h0
        · cases h0
        · rename_i h1 h2
          cases hs : a.spot with
          | none => rfl
          | some s => simp [hs] at h2
      · cases h0
    obtain ⟨b, o, s⟩ := a
    simp only at hspot
    subst hspot
    refine ⟨b, o, rfl, fun j u hu => ?_⟩
    have hj := (List.getElem?_eq_some_iff.1 hu).1
    rw [List.length_map] at hj
    have h1 := (hel j (by omega)).1
    rw [show (⟨b, o, none⟩ : Addr).add j = ⟨b, o + j, none⟩ from by unfold Addr.add; split <;> simp_all] at h1
    rw [h1, ← hu, hp2 j (by omega)]
/-- a row of numbers: where it lies, its room, its numbers. -/
abbrev Nums := Option Addr × Nat × List Int
def nsl (p : Nums) : Value := .slice p.1 p.2.2.length p.2.1
def NumsIn (w : World) (p : Nums) : Prop := Rd w p.1 (p.2.2.map fun z => .int .i64 z) ∧ (p.1 = none → p.2.1 = 0)
theorem no_spot {W : World} {a : Addr} {v : Value} (h0 : W.cell? a = some v) : a.spot = none := by
  unfold World.cell? at h0
  split at h0
  · split at h0
    · cases h0
    · rename_i h1 h2
      cases hs : a.spot with
      | none => rfl
      | some s => simp [hs] at h2
  · cases h0
theorem add_nil (a : Addr) : a.add 0 = a := by simp [Addr.add]
theorem add_lit (b o k : Nat) : Addr.add ⟨b, o, none⟩ k = ⟨b, o + k, none⟩ := by unfold Addr.add; split <;> simp_all
set_option maxRecDepth 100000 in
theorem nums_of_trod {H : Type} {enc : TypeId × Value → H} {W : World} {fuel : Nat} {v : Value} {x : DataW H × List MemPlace}
    (hd : DataW.trod enc Tryd.prog W 0 (fun _ => true) true fuel 38 [v] = some x) :
    ∃ p : Nums, v = nsl p ∧ NumsIn W p ∧ p.2.2.length ≤ p.2.1 ∧ p.2.1 ≤ maxLen := by
  rcases open_ints Tryd.underlying38 Tryd.underlying3 (by kernel_rfl) hd with ⟨hcs, hx⟩ | ⟨a, len', cap', zs, hcs, _, hl, hm, hz, hx, hcell, hwz⟩
  · injection hcs with h1
    subst h1
    exact ⟨(none, 0, []), rfl, ⟨Rd.none_ _ _, fun _ => rfl⟩, Nat.le_refl _, by decide⟩
  · injection hcs with h1
    subst h1
    simp only [if_true] at hz
    have hll : (zs.take len').length = len' := by rw [List.length_take]; omega
    refine ⟨(some a, cap', zs.take len'), by unfold nsl; rw [hll], ⟨?_, fun h => by cases h⟩, by show (zs.take len').length ≤ cap'; omega, hm⟩
    show Rd W (some a) ((zs.take len').map fun z => .int .i64 z)
    intro hpos
    rw [List.length_map] at hpos
    have hspot : a.spot = none := by
      have h0 := hcell 0 (by omega)
      rw [add_nil] at h0
      exact no_spot h0
    obtain ⟨b, o, s⟩ := a
    simp only at hspot
    subst hspot
    refine ⟨b, o, rfl, fun j u hu => ?_⟩
    rw [List.getElem?_map] at hu
    obtain ⟨z, hz1, rfl⟩ := Option.map_eq_some_iff.1 hu
    have hj := (List.getElem?_eq_some_iff.1 hz1).1
    rw [List.length_take] at hj
    have h1 := hcell j (by omega)
    rw [add_lit] at h1
    rw [h1, List.getD_eq_getElem?_getD]
    rw [List.getElem?_take, if_pos (by omega)] at hz1
    rw [hz1]
    rfl


theorem open_agg3 {H : Type} {enc : TypeId × Value → H} {P : Program} {w : World} {base : Nat} {spare : Nat → Bool} {held : Bool} {r : Reach} {b0 : Nat} {t : TypeId} {f0 f1 f2 : Field} {v : Value} {d : DataW H} {p : List MemPlace} (hs : P.underlying t = some (.struct #[f0, f1, f2])) (hone : Deep.oneCellFields P #[f0, f1, f2] = true) (hC : P.cellsOf t = 3)
    (hv : Value.okWide P w r b0 t v) (h : DataW.Trod enc P w base spare held t v d p) :
    ∃ (v0 v1 v2 : Value) (y0 y1 y2 : DataW H × List MemPlace) (n : Nat), v = .agg #[v0, v1, v2] ∧
      DataW.trod enc P w base spare held n f0.type [v0] = some y0 ∧ DataW.trod enc P w base spare held n f1.type [v1] = some y1 ∧ DataW.trod enc P w base spare held n f2.type [v2] = some y2 := by
  obtain ⟨cs, rfl, hsz⟩ := okWide_struct hs hv
  obtain ⟨l⟩ := cs
  match l, hsz.trans hC with
  | [c0, c1, c2], _ =>
    obtain ⟨fuel, hf⟩ := h
    obtain ⟨xs, n, _, hx, _, hlen, hg⟩ := DataW.trod_struct hs hf
    obtain ⟨o0, k0⟩ := Deep.hone_of hone 0 f0 rfl
    obtain ⟨o1, k1⟩ := Deep.hone_of hone 1 f1 rfl
    obtain ⟨o2, k2⟩ := Deep.hone_of hone 2 f2 rfl
    match xs, hlen with
    | [y0, y1, y2], _ =>
      exact ⟨c0, c1, c2, y0, y1, y2, n, rfl, by simpa [Value.cells, o0, k0] using hg 0 f0 rfl, by simpa [Value.cells, o1, k1] using hg 1 f1 rfl, by simpa [Value.cells, o2, k2] using hg 2 f2 rfl⟩
end Go.Proofs.YtokonhcphhpogaaDoor
