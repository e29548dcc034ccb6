/- Opening arguments: rows of bytes, numbers. No condition. -/
import Derived.Test.YtheipdbcbdpofaaAgM
namespace Go.Proofs.Ytheipdbcbdpofaa
open Go.ChangeShapes Go.WideShapes Go.ChangeAt Go.RowKit Go.WideMaps Go.WideElems

set_option maxRecDepth 100000 in
theorem open_ints1 {H : Type} {enc : TypeId × Value → H} {W : World} {r : Reach} {base : Nat} {v : Value} {d : DataW H} {p : List MemPlace}
    (hv : Value.okWide Try.prog W r base 64 v) (hd : DataW.Trod enc Try.prog W 0 (fun _ => true) true 64 v d p) :
    ∃ (A : Option Addr) (c : Nat) (l : List Int), v = .slice A l.length c ∧ Rd W A (l.map fun z => .int .i64 z) ∧ (A = none → c = 0) ∧ l.length ≤ c ∧ c ≤ maxLen := by
  obtain ⟨A, n, c, zs, rfl, rfl, hr, hA, hn, hm, hw⟩ := open_cells Try.underlying64 Try.underlying3 (by kernel_rfl) hv hd
  exact ⟨A, c, zs, rfl, hr, hA, hn, hm⟩
/-- a row of bytes as an argument. -/
structure PrIn (W : World) (p : Prt) : Prop where
  rd : Rd W p.1 (cb p.2.2)
  nil : p.1 = none → p.2.1 = 0
  cap : p.2.2.length ≤ p.2.1 ∧ p.2.1 ≤ maxLen
theorem flat_sl (xs : List Prt) : xs.flatMap (fun p => [sl p]) = xs.map sl := by
  induction xs with
  | nil => rfl
  | cons x t ih => rw [List.flatMap_cons, ih]; rfl
theorem open_prts {H : Type} {enc : TypeId × Value → H} {W : World} {r : Reach} {base : Nat} {v : Value} {d : DataW H} {p : List MemPlace}
    (hv : Value.okWide Try.prog W r base 38 v) (hd : DataW.Trod enc Try.prog W 0 (fun _ => true) true 38 v d p) :
    ∃ (A : Option Addr) (c : Nat) (xs : List Prt), v = .slice A xs.length c ∧ Rd W A (xs.map sl) ∧ (∀ x ∈ xs, PrIn W x) ∧ xs.length ≤ c ∧ c ≤ maxLen := by
  obtain ⟨A, c, xs, e, hr, hx, h1, h2⟩ := open_cat (k := 1) (fun p : Prt => [sl p]) (PrIn W) (fun _ => rfl) (by omega) Try.underlying38 (by kernel_rfl) (fun hl h => by
    rename_i fuel cs x
    match cs, hl with
    | [v0], _ =>
      obtain ⟨A, c, l, rfl, hr, hA, hc, hm⟩ := bytes_of_trod h
      exact ⟨(A, c, l), rfl, hr, hA, hc, hm⟩) hv hd
  rw [flat_sl] at hr
  exact ⟨A, c, xs, e, hr, hx, h1, h2⟩
end Go.Proofs.Ytheipdbcbdpofaa
