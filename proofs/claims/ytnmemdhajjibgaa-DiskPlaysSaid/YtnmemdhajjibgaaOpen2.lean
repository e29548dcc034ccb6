/- Opening an argument that is a slice of slices of bytes. No condition. -/
import Derived.Test.YtnmemdhajjibgaaOpen
import Derived.Deep.Slices
namespace Go.Proofs.Ytnmemdhajjibgaa
open Go.ChangeShapes Go.WideShapes Go.ChangeAt Go.RowKit Go.WideMaps Go.WideElems

/-- a part that is put to others: where it lies, its room, its bytes. -/
abbrev Prt := Option Addr × Nat × List UInt8
def sl (p : Prt) : Value := .slice p.1 p.2.2.length p.2.1
def allOf (ps : List Prt) : List UInt8 := ps.flatMap fun p => p.2.2
def Part (w : World) (p : Prt) : Prop := Rd w p.1 (cb p.2.2) ∧ (p.1 = none → p.2.1 = 0)
theorem allOf_step (ps : List Prt) (k : Nat) (p : Prt) (h : ps[k]? = some p) : allOf (ps.take (k + 1)) = allOf (ps.take k) ++ p.2.2 := by
  unfold allOf
  obtain ⟨hk, rfl⟩ := List.getElem?_eq_some_iff.1 h
  rw [List.take_succ_eq_append_getElem hk, List.flatMap_append]
  simp
theorem allOf_le (ps : List Prt) (k : Nat) : (allOf (ps.take k)).length ≤ (allOf ps).length := by
  conv => rhs; rw [← List.take_append_drop k ps]
  unfold allOf
  rw [List.flatMap_append, List.length_append]
  omega


set_option maxRecDepth 100000 in
theorem bytes_of_trod {H : Type} {enc : TypeId × Value → H} {W : World} {fuel : Nat} {v : Value} {x : DataW H × List MemPlace}
    (hd : DataW.trod enc Try.prog W 0 (fun _ => true) true fuel 31 [v] = some x) :
    ∃ p : Prt, v = sl p ∧ Part W p ∧ p.2.2.length ≤ p.2.1 ∧ p.2.1 ≤ maxLen := by
  rcases open_ints Try.underlying31 Try.underlying5 (by kernel_rfl) hd with ⟨hcs, hx⟩ | ⟨a, len', cap', zs, hcs, _, hl, hm, hz, hx, hcell, hwz⟩
  · injection hcs with h1
    subst h1
    exact ⟨(none, 0, []), rfl, ⟨Rd.none_ _ _, fun _ => rfl⟩, Nat.le_refl _, by decide⟩
  · injection hcs with h1
    subst h1
    simp only [if_true] at hz
    obtain ⟨l, hl2⟩ := bytes_of_ints (zs.take len') (fun z hz' => hwz z (List.mem_of_mem_take hz'))
    have hll : l.length = len' := by
      have := congrArg List.length hl2
      rw [List.length_take, List.length_map] at this
      omega
    refine ⟨(some a, cap', l), by unfold sl; rw [hll], ⟨?_, fun h => by cases h⟩, by show l.length ≤ cap'; omega, hm⟩
    show Rd W (some a) (cb l)
    intro hpos
    rw [cb_length] at hpos
    have hspot : a.spot = none := by
      have h0 := hcell 0 (by omega)
      rw [show a.add 0 = a from by simp [Addr.add]] at h0
      unfold World.cell? at h0
      split at h0
      · split at h0
        · cases h0
        · rename_i h1 h2
          cases hs : a.spot with
          | none => rfl
          | some s => simp [hs] at h2
      · cases h0
    obtain ⟨b, o, s⟩ := a
    simp only at hspot
    subst hspot
    refine ⟨b, o, rfl, fun j u hu => ?_⟩
    have hj := (List.getElem?_eq_some_iff.1 hu).1
    rw [cb_length] at hj
    have h1 := hcell j (by omega)
    rw [show (⟨b, o, none⟩ : Addr).add j = ⟨b, o + j, none⟩ from by unfold Addr.add; split <;> simp_all] at h1
    rw [h1, ← hu]
    have h2 : (zs.take len')[j]? = (l.map fun x => ((x.toNat : Nat) : Int))[j]? := by rw [hl2]
    rw [List.getElem?_take, if_pos (by omega), List.getElem?_map, List.getElem?_eq_getElem hj] at h2
    unfold cb
    rw [List.getD_eq_getElem?_getD, h2, List.getElem?_map, List.getElem?_eq_getElem hj]
    rfl

set_option maxRecDepth 100000 in
theorem open_rows {H : Type} {enc : TypeId × Value → H} {W : World} {r : Reach} {base : Nat} {v : Value} {d : DataW H} {p : List MemPlace}
    (hv : Value.okWide Try.prog W r base 40 v) (hd : DataW.Trod enc Try.prog W 0 (fun _ => true) true 40 v d p) :
    ∃ (A : Option Addr) (c : Nat) (ps : List Prt), v = .slice A ps.length c ∧ Rd W A (ps.map sl) ∧ (∀ p ∈ ps, Part W p ∧ p.2.2.length ≤ p.2.1 ∧ p.2.1 ≤ maxLen) ∧ ps.length ≤ c ∧ c ≤ maxLen := by
  obtain ⟨a0, len, cap, rfl⟩ := okWide_slice Try.underlying40 hv
  obtain ⟨fuel, hf⟩ := hd
  rcases Deep.open_slice1 Try.underlying40 (by kernel_rfl) hf with ⟨hcs, hx⟩ | ⟨a, len', cap', m, n, V, D, Pl, hcs, _, hl, hm, hmm, hx, hel⟩
  · have hcs' : Value.slice a0 len cap = .slice none 0 0 := by simpa [Value.cells] using hcs
    injection hcs' with h1 h2 h3
    subst h1 h2 h3
    exact ⟨none, 0, [], rfl, Rd.none_ _ _, (fun _ h => by cases h), Nat.le_refl _, by decide⟩
  · have hcs' : Value.slice a0 len cap = .slice (some a) len' cap' := by simpa [Value.cells] using hcs
    injection hcs' with h1 h2 h3
    subst h1 h2 h3
    simp only [if_true] at hmm
    have hex : ∀ i, i < len → ∃ p : Prt, V i = sl p ∧ Part W p ∧ p.2.2.length ≤ p.2.1 ∧ p.2.1 ≤ maxLen := fun i hi => bytes_of_trod (hel i (by omega)).2
    have hps : ∀ n, n ≤ len → ∃ ps : List Prt, ps.length = n ∧ (∀ i, i < n → (ps.map sl)[i]? = some (V i)) ∧ ∀ p ∈ ps, Part W p ∧ p.2.2.length ≤ p.2.1 ∧ p.2.1 ≤ maxLen := by
      intro n
      induction n with
      | zero => intro _; exact ⟨[], rfl, fun i h => absurd h (by omega), fun _ h => by cases h⟩
      | succ n ih =>
        intro hn
        obtain ⟨ps, h1, h2, h3⟩ := ih (by omega)
        obtain ⟨p, hp1, hp2⟩ := hex n (by omega)
        refine ⟨ps ++ [p], by rw [List.length_append, h1]; rfl, ?_, ?_⟩
        · intro i hi
          rw [List.map_append]
          by_cases h : i < n
          · rw [List.getElem?_append_left (by rw [List.length_map]; omega)]
            exact h2 i h
          · rw [List.getElem?_append_right (by rw [List.length_map]; omega), List.length_map, show i - ps.length = 0 by omega, show i = n by omega, hp1]
            rfl
        · intro q hq
          rcases List.mem_append.1 hq with h | h
          · exact h3 q h
          · rw [List.mem_singleton.1 h]; exact hp2
    obtain ⟨ps, hp1, hp2, hp3⟩ := hps len (Nat.le_refl _)
    refine ⟨some a, cap, ps, by rw [hp1], ?_, hp3, by omega, hm⟩
    intro hpos
    rw [List.length_map] at hpos
    have hspot : a.spot = none := by
      have h0 := (hel 0 (by omega)).1
      rw [show a.add 0 = a from by simp [Addr.add]] at h0
      unfold World.cell? at h0
      split at h0
      · split at h0
        · cases h0
        · rename_i h1 h2
          cases hs : a.spot with
          | none => rfl
          | some s => simp [hs] at h2
      · cases h0
    obtain ⟨b, o, s⟩ := a
    simp only at hspot
    subst hspot
    refine ⟨b, o, rfl, fun j u hu => ?_⟩
    have hj := (List.getElem?_eq_some_iff.1 hu).1
    rw [List.length_map] at hj
    have h1 := (hel j (by omega)).1
    rw [show (⟨b, o, none⟩ : Addr).add j = ⟨b, o + j, none⟩ from by unfold Addr.add; split <;> simp_all] at h1
    rw [h1, ← hu, hp2 j (by omega)]
end Go.Proofs.Ytnmemdhajjibgaa
