/- Packets handed out are the law's own to write into. No condition. -/
import Derived.Test.YtchlafhmoncldaaPlL
import Derived.Test.YtchlafhmoncldaaOpenO
namespace Go.Proofs.Ytchlafhmoncldaa
open Go.RowKit Go.Maps Go.ChangeMaps Go.MapKept Go.WideShapes

theorem PlS.mS {w W : World} {S : Nat → Prop} {g m : Nat} {L : Lk} {R : Rk} (h : PlS w W S g m L R) : ¬ S m := by
  obtain ⟨O, M, h1, h2, h3, h4⟩ := h.ex
  exact (h4 m (.inr rfl)).2
theorem LopIn.nofr {W W' : World} {x : Lop} (h : LopIn W x) (hf : Fr NoBlk W W') : LopIn W' x := ⟨h.rd.nofr hf, h.nil, h.len, ⟨h.pk.ep, h.pk.pe, h.pk.sq, h.pk.ak, h.pk.rd.nofr hf, h.pk.nil, h.pk.len⟩⟩
/-- data in a block of bytes that was made behind base. -/
def DatW (W : World) (base : Nat) (x : Pk) : Prop := x.d.2.2.length = 0 ∨ ∃ b cs, x.d.1 = some ⟨b, 0, none⟩ ∧ base ≤ b ∧ Bk W b 5 cs ∧ x.d.2.2.length ≤ cs.size
theorem DatW.of {W : World} {base : Nat} {x : Pk} (h : W.ownsRow base 5 1 (sl x.d) x.d.2.2.length (cb x.d.2.2)) : DatW W base x := by
  rcases h.2 with ⟨_, hn⟩ | ⟨g, cap, cur, hv, hb, hg, hnc, hcm, hcs, htake⟩
  · exact .inl hn
  · have hA : x.d.1 = some ⟨g, 0, none⟩ := by unfold sl at hv; injection hv
    exact .inr ⟨g, cur, hA, hb, hg, by omega⟩
theorem DatW.nofr {W W' : World} {base : Nat} {x : Pk} (h : DatW W base x) (hf : Fr NoBlk W W') : DatW W' base x := by
  rcases h with h | ⟨b, cs, h1, h2, h3, h4⟩
  · exact .inl h
  · exact .inr ⟨b, cs, h1, h2, h3.fr hf (fun h => h), h4⟩
theorem DatW.set {W : World} {base : Nat} {x : Pk} (h : DatW W base x) (b i : Nat) (v : Value) : DatW (W.setCell ⟨b, i, none⟩ v) base x := by
  rcases h with h | ⟨g, cs, h1, h2, h3, h4⟩
  · exact .inl h
  · by_cases e : g = b
    · subst e
      exact .inr ⟨g, _, h1, h2, h3.put i v, by rw [Array.size_setIfInBounds]; exact h4⟩
    · exact .inr ⟨g, cs, h1, h2, h3.far (p := ⟨b, i, none⟩) e v, h4⟩
structure SpI (wc W : World) (B : Option Addr) (cB : Nat) (xs : List Pk) : Prop where
  row : W.ownsRow wc.heap.size 32 5 (.slice B xs.length cB) xs.length (pksc xs)
  dat : ∀ x ∈ xs, DatW W wc.heap.size x
  fr : Fr (fun k => wc.heap.size ≤ k) wc W
theorem SpI.of {wc W : World} {B : Option Addr} {cB : Nat} {xs : List Pk} (h : PksIn wc W B cB xs) (hf : Fr NoBlk wc W) : SpI wc W B cB xs := ⟨h.own, fun x hx => DatW.of (h.data x hx), hf.mono fun _ _ e => e.elim⟩
theorem SpI.nofr {wc W W' : World} {B : Option Addr} {cB : Nat} {xs : List Pk} (h : SpI wc W B cB xs) (hf : Fr NoBlk W W') : SpI wc W' B cB xs := ⟨own_fr h.row hf (fun _ _ e => e), fun x hx => (h.dat x hx).nofr hf, h.fr.trans (hf.mono fun _ _ e => e.elim)⟩
theorem SpI.set {wc W : World} {B : Option Addr} {cB : Nat} {xs : List Pk} (h : SpI wc W B cB xs) {b : Nat} {cs : Array Value} (hb : wc.heap.size ≤ b) (hB : Bk W b 5 cs) (i : Nat) (v : Value) : SpI wc (W.setCell ⟨b, i, none⟩ v) B cB xs :=
  ⟨own_set h.row hB (by decide), fun x hx => (h.dat x hx).set b i v, h.fr.setCell (fun _ => hb) v⟩
/-- where one of them lies. -/
theorem SpI.at_ {wc W : World} {B : Option Addr} {cB : Nat} {xs : List Pk} (h : SpI wc W B cB xs) {i : Nat} {x : Pk} (hx : xs[i]? = some x) : ∃ b o, B = some ⟨b, o, none⟩ ∧ W.cell? ⟨b, o + i * 5 + 4, none⟩ = some (.slice x.d.1 x.d.2.2.length x.d.2.1) := by
  obtain ⟨b, o, e, hc⟩ := Rd.cat pkc 5 pkc_len (Rd.of_ownN h.row) (by omega) hx
  exact ⟨b, o, e, hc 4 _ rfl⟩
theorem SpI.byte {wc W : World} {B : Option Addr} {cB : Nat} {xs : List Pk} (h : SpI wc W B cB xs) {x : Pk} (hx : x ∈ xs) {j : Nat} (hj : j < x.d.2.2.length) : ∃ b v, x.d.1 = some ⟨b, 0, none⟩ ∧ W.cell? ⟨b, j, none⟩ = some v ∧ W.frozen? ⟨b, j, none⟩ = false ∧ ∀ u, SpI wc (W.setCell ⟨b, j, none⟩ u) B cB xs := by
  rcases h.dat x hx with h0 | ⟨b, cs, h1, h2, h3, h4⟩
  · omega
  · exact ⟨b, cs[j], h1, (h3.cell j).trans (Array.getElem?_eq_getElem (by omega)), h3.free j, fun u => h.set h2 h3 j u⟩
end Go.Proofs.Ytchlafhmoncldaa
