/- The document's Receive, by the data alone. No condition. -/
import Derived.Test.YtchlafhmoncldaaRp
namespace Go.Proofs.Ytchlafhmoncldaa
open Go.RowKit Go.Maps Go.ChangeMaps Go.MapKept Go.WideShapes

/-- the document's link, without where it lies. -/
structure Rv where
  ep : Nat
  pe : Nat
  ba : Nat
  ex : Nat
  outs : List Bs
  ers : List (Nat × Bs)
def rv (R : Rk) : Rv := ⟨R.ep, R.pe, R.ba, R.ex, R.outs.map (·.2.2), R.ers.map fun x => (x.1, x.2.2.2)⟩
def metV (V : Rv) (ep : Nat) : Rv := if V.pe < ep then { V with pe := ep, ex := 1, ba := 1, ers := [] } else V
def AckV (V : Rv) (ak : Nat) (V' : Rv) : Prop := ∃ k, k ≤ V.outs.length ∧ (∀ i, i < k → (V.ba + i) % 2 ^ 64 ≤ ak) ∧ (k = V.outs.length ∨ ak < (V.ba + k) % 2 ^ 64) ∧ V' = { V with outs := V.outs.drop k, ba := (V.ba + k) % 2 ^ 64 }
def fitsV (V : Rv) (seq : Nat) : Prop := V.ex ≤ seq ∧ seq - V.ex < 16 ∧ ∀ x ∈ V.ers, x.1 ≠ seq
def AddV (V : Rv) (seq : Nat) (d : Bs) (V' : Rv) : Prop := (fitsV V seq ∧ V' = { V with ers := V.ers ++ [(seq, d)] }) ∨ (¬ fitsV V seq ∧ V' = V)
inductive DrV : Rv → List Bs → Rv → Prop
  | nil (V : Rv) : DrV V [] V
  | snoc {V V1 : Rv} {ds : List Bs} {i : Nat} {x : Nat × Bs} : DrV V ds V1 → V1.ers[i]? = some x → x.1 = V1.ex → DrV V (ds ++ [x.2]) { V1 with ers := V1.ers.eraseIdx i, ex := (V1.ex + 1) % 2 ^ 64 }
def ansV (V : Rv) : Nat × Nat × Nat × Nat × Bs := (V.ep, V.pe, 0, akN V.ex, [])
/-- what it brings (ds), what answers it (ys), and what is left. -/
def RecV (V : Rv) (P : Pk) (ds : List Bs) (ys : List (Nat × Nat × Nat × Nat × Bs)) (V' : Rv) : Prop :=
  if P.ep = 0 ∨ P.ep < V.pe then ds = [] ∧ ys = [] ∧ V' = V
  else if P.pe ≠ V.ep then ds = [] ∧ ys = [ansV (metV V P.ep)] ∧ V' = metV V P.ep
  else if P.sq = 0 then ds = [] ∧ ys = [] ∧ AckV (metV V P.ep) P.ak V'
  else ∃ V1 V2, AckV (metV V P.ep) P.ak V1 ∧ AddV V1 P.sq P.d.2.2 V2 ∧ DrV V2 ds V' ∧ (∀ x ∈ V'.ers, x.1 ≠ V'.ex) ∧ ys = [ansV V']
theorem metV_ep (V : Rv) (ep : Nat) : (metV V ep).ep = V.ep := by
  unfold metV
  split <;> rfl
def metR (R : Rk) (ep : Nat) : Rk := if R.pe < ep then { R with pe := ep, ex := 1, ba := 1, ae := none, ce := 0, ers := [] } else R
theorem rv_met (R : Rk) (ep : Nat) : rv (metR R ep) = metV (rv R) ep := by
  unfold metR metV
  by_cases h : R.pe < ep
  · rw [if_pos h, if_pos (by exact h)]
    rfl
  · rw [if_neg h, if_neg (by exact h)]
theorem atI_neg {xs : List Er} {s : Nat} : atI xs s < 0 ↔ ∀ x ∈ xs, (x : Er).1 ≠ s := by
  have key : ∀ xs : List Er, atE xs s = none ↔ ∀ x ∈ xs, (x : Er).1 ≠ s := by
    intro xs
    induction xs with
    | nil => exact ⟨fun _ _ h => (by cases h), fun _ => rfl⟩
    | cons y t ih =>
      unfold atE
      by_cases h : y.1 = s
      · rw [if_pos h]
        exact ⟨fun e => (by cases e), fun e => absurd h (e y (List.mem_cons_self ..))⟩
      · rw [if_neg h, Option.map_eq_none_iff, ih]
        exact ⟨fun e x hx => by
          rcases List.mem_cons.1 hx with rfl | hx
          · exact h
          · exact e x hx, fun e x hx => e x (List.mem_cons_of_mem _ hx)⟩
  rw [← key]
  unfold atI
  cases atE xs s with
  | none => simp
  | some i => simp
theorem atI_some {xs : List Er} {s : Nat} (h : ¬ atI xs s < 0) : ∃ (i : Nat) (x : Er), atI xs s = (i : Int) ∧ xs[i]? = some x ∧ x.1 = s := by
  have key : ∀ (xs : List Er) (i : Nat), atE xs s = some i → ∃ x : Er, xs[i]? = some x ∧ x.1 = s := by
    intro xs
    induction xs with
    | nil => intro i h; cases h
    | cons y t ih =>
      intro i h
      unfold atE at h
      by_cases hy : y.1 = s
      · rw [if_pos hy] at h
        injection h with h
        subst h
        exact ⟨y, rfl, hy⟩
      · rw [if_neg hy] at h
        obtain ⟨j, hj, rfl⟩ := Option.map_eq_some_iff.1 h
        obtain ⟨x, hx, e⟩ := ih j hj
        exact ⟨x, hx, e⟩
  unfold atI at h ⊢
  cases he : atE xs s with
  | none => rw [he] at h; simp at h
  | some i =>
    obtain ⟨x, hx, e⟩ := key xs i he
    exact ⟨i, x, rfl, hx, e⟩
def RRecPost (M : Nat → Prop) (W : World) (m : Nat) (R : Rk) (P : Pk) (e : Ending) (W' : World) : Prop :=
  ∃ A c qs B c' ys M' R', e = .returned (.tuple #[.slice A qs.length c, .slice B ys.length c']) ∧ RkIn M' W' m R' ∧ Fr (fun k => k = m) W W' ∧ (∀ k, M' k → M k ∨ W.heap.size ≤ k) ∧ RowRd W' A qs ∧ PkRd W' B ys ∧ RecV (rv R) P (qs.map (·.2.2)) (ys.map pkd) (rv R')
end Go.Proofs.Ytchlafhmoncldaa
