/- Opening a script of calls. No condition. -/
import Derived.Test.YtchlafhmoncldaaOpenK
namespace Go.Proofs.Ytchlafhmoncldaa
open Go.ChangeShapes Go.WideShapes Go.ChangeAt Go.RowKit Go.WideMaps Go.WideElems

/-- a call of the script. -/
structure Lop where
  kind : Int
  d : Prt
  p : Pk
def loc (x : Lop) : List Value := .int .i64 x.kind :: sl x.d :: pkc x.p
def losc (xs : List Lop) : List Value := xs.flatMap loc
theorem loc_len (x : Lop) : (loc x).length = 7 := rfl
structure LopIn (W : World) (x : Lop) : Prop where
  rd : Rd W x.d.1 (cb x.d.2.2)
  nil : x.d.1 = none → x.d.2.1 = 0
  len : x.d.2.2.length ≤ maxLen
  pk : PkIn W x.p
theorem lop_of_cells {H : Type} {enc : TypeId × Value → H} {W : World} {fuel : Nat} {cs : List Value} {x : DataW H × List MemPlace} (hl : cs.length = 7)
    (hd : DataW.trod enc Try.prog W 0 (fun _ => true) true fuel 34 cs = some x) : ∃ p : Lop, cs = loc p ∧ LopIn W p := by
  obtain ⟨ys, n, _, _, _, hyl, hf⟩ := DataW.trod_struct Try.underlying34 hd
  match cs, hl with
  | [v0, v1, v2, v3, v4, v5, v6], _ =>
    match ys, hyl with
    | [y0, y1, y2], _ =>
      have h0 := hf 0 _ rfl
      have h1 := hf 1 _ rfl
      have h2 := hf 2 _ rfl
      simp only [List.getElem?_cons_zero, List.getElem?_cons_succ] at h0 h1 h2
      obtain ⟨q0, e0, _, _⟩ := DataW.trod_int Try.underlying3 h0
      obtain ⟨A, c, l, rfl, hr, hA, hc, hm⟩ := bytes_of_trod h1
      obtain ⟨p, hp, hi⟩ := pk_of_cells (cs := [v2, v3, v4, v5, v6]) rfl h2
      injection e0 with e0
      subst e0
      exact ⟨⟨q0, (A, c, l), p⟩, by show _ = _ :: _ :: pkc p; rw [← hp]; rfl, hr, hA, Nat.le_trans hc hm, hi⟩
theorem open_lops {H : Type} {enc : TypeId × Value → H} {W : World} {r : Reach} {base : Nat} {v : Value} {d : DataW H} {p : List MemPlace}
    (hv : Value.okWide Try.prog W r base 23 v) (hd : DataW.Trod enc Try.prog W 0 (fun _ => true) true 23 v d p) :
    ∃ (A : Option Addr) (c : Nat) (xs : List Lop), v = .slice A xs.length c ∧ Rd W A (losc xs) ∧ (∀ x ∈ xs, LopIn W x) ∧ xs.length ≤ c ∧ c ≤ maxLen :=
  open_cat loc (fun x => LopIn W x) loc_len (by omega) Try.underlying23 (by kernel_rfl) (fun hl h => lop_of_cells hl h) hv hd
end Go.Proofs.Ytchlafhmoncldaa
