/- Opening arguments: a slice of bytes, a slice of ints, as lists that the world holds. No condition. -/
import Derived.Test.YtkdcacajacndmaaLawp
namespace Go.Proofs.Ytkdcacajacndmaa
open Go.ChangeShapes Go.WideShapes Go.ChangeAt Go.RowKit Go.WideMaps Go.WideElems

theorem bytes_of_ints (zs : List Int) (h : ∀ n ∈ zs, (Lit.int .u8 n).wf = true) : ∃ l : List UInt8, zs = l.map fun x => ((x.toNat : Nat) : Int) := by
  induction zs with
  | nil => exact ⟨[], rfl⟩
  | cons z t ih =>
    obtain ⟨l, rfl⟩ := ih fun n hn => h n (List.mem_cons_of_mem _ hn)
    have hz := h z (List.mem_cons_self ..)
    simp only [Lit.wf, Bool.and_eq_true, decide_eq_true_eq, show IntKind.min .u8 = 0 from by decide, show IntKind.max .u8 = 255 from by decide] at hz
    refine ⟨UInt8.ofNat z.toNat :: l, ?_⟩
    simp only [List.map_cons, UInt8.toNat_ofNat']
    congr 1
    omega

theorem open_cells {H : Type} {enc : TypeId × Value → H} {P : Program} {W : World} {r : Reach} {base t e : TypeId} {k : IntKind} {v : Value} {d : DataW H} {p : List MemPlace}
    (ht : P.underlying t = some (.slice e)) (he : P.underlying e = some (.int k)) (hc : P.cellsOf e = 1)
    (hv : Value.okWide P W r base t v) (hd : DataW.Trod enc P W 0 (fun _ => true) true t v d p) :
    ∃ (A : Option Addr) (n c : Nat) (zs : List Int), v = .slice A n c ∧ zs.length = n ∧ Rd W A (zs.map (Value.int k)) ∧ (A = none → c = 0) ∧ n ≤ c ∧ c ≤ maxLen ∧ (∀ z ∈ zs, (Lit.int k z).wf = true) := by
  obtain ⟨a0, len, cap, rfl⟩ := okWide_slice ht hv
  obtain ⟨fuel, hf⟩ := hd
  rcases open_ints ht he hc hf with ⟨hcs, hx⟩ | ⟨a, len', cap', zs, hcs, _, hl, hm, hz, hx, hcell, hwz⟩
  · have hcs' : Value.slice a0 len cap = .slice none 0 0 := by simpa [Value.cells] using hcs
    injection hcs' with h1 h2 h3
    subst h1 h2 h3
    exact ⟨none, 0, 0, [], rfl, rfl, Rd.none_ _ _, fun _ => rfl, Nat.le_refl _, by decide, (fun _ h => by cases h)⟩
  · have hcs' : Value.slice a0 len cap = .slice (some a) len' cap' := by simpa [Value.cells] using hcs
    injection hcs' with h1 h2 h3
    subst h1 h2 h3
    simp only [if_true] at hz
    refine ⟨some a, len, cap, zs.take len, rfl, by rw [List.length_take]; omega, ?_, (fun h => by cases h), hl, hm, fun z hz' => hwz z (List.mem_of_mem_take hz')⟩
    intro hpos
    rw [List.length_map, List.length_take] at hpos
    have hspot : a.spot = none := by
      have h0 := hcell 0 (by omega)
      rw [show a.add 0 = a from by simp [Addr.add]] at h0
      unfold World.cell? at h0
      split at h0
      · split at h0
        · cases h0
        · rename_i h1 h2
          cases hs : a.spot with
          | none => rfl
          | some s => simp [hs] at h2
      · cases h0
    obtain ⟨b, o, s⟩ := a
    simp only at hspot
    subst hspot
    refine ⟨b, o, rfl, fun j u hu => ?_⟩
    rw [List.getElem?_map] at hu
    obtain ⟨z, hz1, rfl⟩ := Option.map_eq_some_iff.1 hu
    have hj := (List.getElem?_eq_some_iff.1 hz1).1
    rw [List.length_take] at hj
    have := hcell j (by omega)
    rw [show (⟨b, o, none⟩ : Addr).add j = ⟨b, o + j, none⟩ from by unfold Addr.add; split <;> simp_all] at this
    rw [this, List.getD_eq_getElem?_getD]
    rw [List.getElem?_take, if_pos (by omega)] at hz1
    rw [hz1]
    rfl

set_option maxRecDepth 100000 in
theorem open_bytes {H : Type} {enc : TypeId × Value → H} {W : World} {r : Reach} {base : Nat} {v : Value} {d : DataW H} {p : List MemPlace}
    (hv : Value.okWide Try.prog W r base 31 v) (hd : DataW.Trod enc Try.prog W 0 (fun _ => true) true 31 v d p) :
    ∃ (A : Option Addr) (c : Nat) (l : List UInt8), v = .slice A l.length c ∧ Rd W A (cb l) ∧ (A = none → c = 0) ∧ l.length ≤ c ∧ c ≤ maxLen := by
  obtain ⟨A, n, c, zs, rfl, rfl, hr, hA, hn, hm, hw⟩ := open_cells Try.underlying31 Try.underlying5 (by kernel_rfl) hv hd
  obtain ⟨l, rfl⟩ := bytes_of_ints zs hw
  refine ⟨A, c, l, by rw [List.length_map], ?_, hA, by simpa using hn, hm⟩
  rw [List.map_map] at hr
  exact hr
end Go.Proofs.Ytkdcacajacndmaa
