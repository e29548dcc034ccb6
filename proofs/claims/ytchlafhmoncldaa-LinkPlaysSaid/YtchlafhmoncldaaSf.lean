/- The link beside the document's: New, Send, Packets; how the numbers grow. No condition. -/
import Derived.Test.YtchlafhmoncldaaSe
namespace Go.Proofs.Ytchlafhmoncldaa
open Go.RowKit Go.Maps Go.ChangeMaps Go.MapKept Go.WideShapes

theorem SdR.fresh {L : Lk} {R : Rk} (h1 : L.epoch = R.ep) (h2 : L.peer = 0 ∧ L.base = 1 ∧ L.expects = 1 ∧ L.sent = [] ∧ ∀ k, L.early k = none) (h3 : R.pe = 0 ∧ R.ba = 1 ∧ R.ex = 1 ∧ R.outs = [] ∧ R.ers = []) : SdR L (rv R) := by
  obtain ⟨a1, a2, a3, a4, a5⟩ := h2
  obtain ⟨b1, b2, b3, b4, b5⟩ := h3
  refine ⟨h1, a1.trans b1.symm, a2.trans b2.symm, a3.trans b3.symm, ?_, ⟨fun s d => ?_, ?_⟩, a5 _⟩
  · show _ = R.outs.map _
    rw [a4, b4]
  · show _ ↔ _ ∈ R.ers.map _
    rw [b5]
    unfold ev
    rw [a5]
    exact ⟨fun e => (by cases e), fun e => (by cases e)⟩
  · show ((R.ers.map _).map _).Nodup
    rw [b5]
    exact List.nodup_nil
theorem SdR.sent {L : Lk} {R : Rk} (h : SdR L (rv R)) {p q : Prt} (e : p.2.2 = q.2.2) (A A' : Option Addr) (c c' : Nat) : SdR { L with sa := A, sc := c, sent := L.sent ++ [p] } (rv { R with ao := A', co := c', outs := R.outs ++ [q] }) :=
  ⟨h.ep, h.pe, h.ba, h.ex, by
    show (L.sent ++ [p]).map _ = (R.outs ++ [q]).map _
    rw [List.map_append, List.map_append, h.outs, List.map_singleton, List.map_singleton, e]
    rfl, h.ear, h.no⟩
theorem SdR.pks {L : Lk} {R : Rk} (h : SdR L (rv R)) {xs ys : List Pk} (hx : PacketsAre L xs) (h0 : L.peer = 0 → L.expects = 1) (hy : PkSame R.ep R.pe R.ba R.ex (R.outs.map (·.2.2)) ys) : xs.map pkd = ys.map pkd := by
  have h1 := packets_same hx h0
  have h2 : L.epoch = R.ep := h.ep
  have h3 : L.peer = R.pe := h.pe
  have h4 : L.base = R.ba := h.ba
  have h5 : L.expects = R.ex := h.ex
  have h6 : L.sent.map (·.2.2) = R.outs.map (·.2.2) := h.outs
  rw [h2, h3, h4, h5, h6] at h1
  exact h1.eq hy
theorem DrV.grow {V V' : Rv} {ds : List Bs} (h : DrV V ds V') : V'.ex + V'.ers.length ≤ V.ex + V.ers.length ∧ ds.length ≤ V.ers.length ∧ ds.length + V'.ers.length = V.ers.length ∧ V'.pe = V.pe ∧ V'.ba = V.ba ∧ V'.outs = V.outs := by
  induction h with
  | nil => exact ⟨Nat.le_refl _, Nat.zero_le _, by simp, rfl, rfl, rfl⟩
  | @snoc V1 ds i x h1 hx he ih =>
    obtain ⟨a1, a2, a3, a4, a5, a6⟩ := ih
    have hi := (List.getElem?_eq_some_iff.1 hx).1
    have hl : (V1.ers.eraseIdx i).length = V1.ers.length - 1 := by rw [List.length_eraseIdx, if_pos hi]
    have hm : (V1.ex + 1) % 2 ^ 64 ≤ V1.ex + 1 := Nat.mod_le _ _
    refine ⟨?_, ?_, ?_, a4, a5, a6⟩
    · show (V1.ex + 1) % 2 ^ 64 + (V1.ers.eraseIdx i).length ≤ _
      omega
    · rw [List.length_append, List.length_singleton]
      omega
    · show (ds ++ [x.2]).length + (V1.ers.eraseIdx i).length = _
      rw [List.length_append, List.length_singleton]
      omega
/-- how large the numbers are after k calls. -/
structure SdI (k : Nat) (V : Rv) : Prop where
  a : V.ex + V.ers.length ≤ k + 1
  b : 1 ≤ V.ba ∧ V.ba ≤ 16 * k + 1
  c : V.pe = 0 → V.ex = 1
  d : V.outs.length ≤ 16
theorem SdI.succ {k : Nat} {V : Rv} (h : SdI k V) : SdI (k + 1) V := ⟨by have := h.a; omega, ⟨h.b.1, by have := h.b.2; omega⟩, h.c, h.d⟩
theorem AckV.grow {V V' : Rv} {ak : Nat} (h : AckV V ak V') (hb : V.ba + 20 < 2 ^ 64) (hl : V.outs.length ≤ 16) : V'.ex = V.ex ∧ V'.ers = V.ers ∧ V'.pe = V.pe ∧ V.ba ≤ V'.ba ∧ V'.ba ≤ V.ba + 16 ∧ V'.outs.length ≤ 16 := by
  obtain ⟨k, hk, _, _, rfl⟩ := h
  have hm : (V.ba + k) % 2 ^ 64 = V.ba + k := Nat.mod_eq_of_lt (by omega)
  refine ⟨rfl, rfl, rfl, ?_, ?_, ?_⟩
  · show V.ba ≤ (V.ba + k) % 2 ^ 64
    omega
  · show (V.ba + k) % 2 ^ 64 ≤ _
    omega
  · show (V.outs.drop k).length ≤ 16
    rw [List.length_drop]
    omega
theorem SdI.receive {k : Nat} {V V' : Rv} (h : SdI k V) (hk : k ≤ 1000000) {P : Pk} {ds : List Bs} {ys : List (Nat × Nat × Nat × Nat × Bs)} (hV : RecV V P ds ys V') : SdI (k + 1) V' ∧ ds.length ≤ k + 2 := by
  unfold RecV at hV
  by_cases c1 : P.ep = 0 ∨ P.ep < V.pe
  · rw [if_pos c1] at hV
    obtain ⟨rfl, rfl, rfl⟩ := hV
    exact ⟨h.succ, Nat.zero_le _⟩
  rw [if_neg c1] at hV
  have hm : SdI k (metV V P.ep) ∧ (metV V P.ep).pe ≠ 0 := by
    unfold metV
    by_cases c : V.pe < P.ep
    · rw [if_pos c]
      exact ⟨⟨by show 1 + 0 ≤ _; omega, ⟨Nat.le_refl _, by show 1 ≤ _; omega⟩, fun _ => rfl, h.d⟩, by show P.ep ≠ 0; omega⟩
    · rw [if_neg c]
      exact ⟨h, by omega⟩
  obtain ⟨hi, hp⟩ := hm
  by_cases c2 : P.pe ≠ V.ep
  · rw [if_pos c2] at hV
    obtain ⟨rfl, _, rfl⟩ := hV
    exact ⟨hi.succ, Nat.zero_le _⟩
  rw [if_neg c2] at hV
  have hb : (metV V P.ep).ba + 20 < 2 ^ 64 := by have := hi.b.2; omega
  by_cases c3 : P.sq = 0
  · rw [if_pos c3] at hV
    obtain ⟨rfl, _, hA⟩ := hV
    obtain ⟨g1, g2, g3, g4, g5, g6⟩ := hA.grow hb hi.d
    have ha := hi.a
    have hbb := hi.b
    exact ⟨⟨by rw [g1, g2]; omega, ⟨by omega, by omega⟩, fun e => absurd (g3.symm.trans e) hp, g6⟩, Nat.zero_le _⟩
  rw [if_neg c3] at hV
  obtain ⟨V1, V2, hA, ha, hd, _, _⟩ := hV
  obtain ⟨g1, g2, g3, g4, g5, g6⟩ := hA.grow hb hi.d
  have hia := hi.a
  have hib := hi.b
  have h2 : V2.ex = V1.ex ∧ V2.ers.length ≤ V1.ers.length + 1 ∧ V2.pe = V1.pe ∧ V2.ba = V1.ba ∧ V2.outs = V1.outs := by
    rcases ha with ⟨_, rfl⟩ | ⟨_, rfl⟩
    · exact ⟨rfl, by show (V1.ers ++ _).length ≤ _; rw [List.length_append, List.length_singleton]; omega, rfl, rfl, rfl⟩
    · exact ⟨rfl, Nat.le_succ _, rfl, rfl, rfl⟩
  obtain ⟨k1, k2, k3, k4, k5⟩ := h2
  obtain ⟨d1, d2, d3, d4, d5, d6⟩ := hd.grow
  rw [g2] at k2
  refine ⟨⟨by omega, ⟨by omega, by omega⟩, fun e => absurd ?_ hp, by rw [d6, k5]; exact g6⟩, by omega⟩
  rw [← g3, ← k3, ← d4]
  exact e
end Go.Proofs.Ytchlafhmoncldaa
