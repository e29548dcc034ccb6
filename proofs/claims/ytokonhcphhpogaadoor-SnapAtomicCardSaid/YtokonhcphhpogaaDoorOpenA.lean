/- Opening an argument that is an array of two slices of bytes. No condition. -/
import Derived.Test.YtokonhcphhpogaaDoorOpen2
import Derived.OpenShut
namespace Go.Proofs.YtokonhcphhpogaaDoor
open Go.ChangeShapes Go.WideShapes Go.ChangeAt Go.RowKit Go.WideMaps Go.WideElems

theorem okWide_array {P : Program} {w : World} {r : Reach} {base n : Nat} {t e : TypeId} {v : Value} (ht : P.underlying t = some (.array n e)) (h : Value.okWide P w r base t v) : ∃ cs, v = .agg cs ∧ cs.size = P.cellsOf t := by
  simp only [Value.okWide, ht] at h
  obtain ⟨cs, h1, h2, _⟩ := h
  exact ⟨cs, h1, h2⟩
set_option maxRecDepth 100000 in
theorem open_two {H : Type} {enc : TypeId × Value → H} {W : World} {r : Reach} {base : Nat} {v : Value} {d : DataW H} {p : List MemPlace}
    (hv : Value.okWide Tryd.prog W r base 56 v) (hd : DataW.Trod enc Tryd.prog W 0 (fun _ => true) true 56 v d p) :
    ∃ x y : Prt, v = .agg #[sl x, sl y] ∧ (Part W x ∧ x.2.2.length ≤ x.2.1 ∧ x.2.1 ≤ maxLen) ∧ (Part W y ∧ y.2.2.length ≤ y.2.1 ∧ y.2.1 ≤ maxLen) := by
  obtain ⟨cs, rfl, hsz⟩ := okWide_array Tryd.underlying56 hv
  have k2 : Tryd.prog.cellsOf 56 = 2 := by kernel_rfl
  have k1 : Tryd.prog.cellsOf 22 = 1 := by kernel_rfl
  obtain ⟨l⟩ := cs
  rw [k2] at hsz
  match l, hsz with
  | [c0, c1], _ =>
    obtain ⟨fuel, hf⟩ := hd
    obtain ⟨xs, m, _, hx, hl, hlen, hg⟩ := DataW.trod_array Tryd.underlying56 hf
    rw [k1] at hg
    match xs, hlen with
    | [y0, y1], _ =>
      have h0 : DataW.trod enc Tryd.prog W 0 (fun _ => true) true m 22 [c0] = some y0 := by simpa [Value.cells] using hg 0 (by omega)
      have h1 : DataW.trod enc Tryd.prog W 0 (fun _ => true) true m 22 [c1] = some y1 := by simpa [Value.cells] using hg 1 (by omega)
      obtain ⟨x, rfl, hx1⟩ := bytes_of_trod h0
      obtain ⟨y, rfl, hy1⟩ := bytes_of_trod h1
      exact ⟨x, y, rfl, hx1, hy1⟩
end Go.Proofs.YtokonhcphhpogaaDoor
