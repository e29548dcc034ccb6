/- The link's Receive and the document's: the same answers. Condition: the numbers are small. -/
import Derived.Test.YtchlafhmoncldaaSd
namespace Go.Proofs.Ytchlafhmoncldaa
open Go.RowKit Go.Maps Go.ChangeMaps Go.MapKept Go.WideShapes

def ev (E : Nat → Option Prt) : Nat → Option Bs := fun s => (E s).map (·.2.2)
theorem drained_eq {E0 E : Nat → Option Prt} {x : Nat} {ps : List Prt} (h : Drained E0 x ps.length ps E) (hend : E (x + ps.length) = none) {V V' : Rv} {ds : List Bs} (hV : DrV V ds V') (hE : EarR (ev E0) V.ers) (hx : V.ex = x) (hno : ∀ y ∈ V'.ers, y.1 ≠ V'.ex) (hs : V.ex + ds.length < 2 ^ 64) :
    ps.map (·.2.2) = ds ∧ EarR (ev E) V'.ers ∧ V' = { V with ex := V.ex + ds.length, ers := V'.ers } := by
  subst hx
  obtain ⟨h1, h2, h3⟩ := hV.told hE hs
  have hex : V'.ex = V.ex + ds.length := by rw [h1]
  have hl : ps.length = ds.length := by
    rcases Nat.lt_trichotomy ps.length ds.length with hlt | he | hgt
    · have e1 := h3 ps.length hlt
      rw [h.rest] at hend
      dsimp only at hend
      rw [if_neg (by omega)] at hend
      unfold ev at e1
      rw [hend, List.getElem?_eq_getElem hlt] at e1
      cases e1
    · exact he
    · have e1 := h.got ds.length hgt
      have e2 := h2.no hno
      rw [hex] at e2
      rw [if_neg (by omega)] at e2
      unfold ev at e2
      rw [e1, List.getElem?_eq_getElem hgt] at e2
      cases e2
  refine ⟨?_, ?_, h1⟩
  · refine List.ext_getElem? fun j => ?_
    by_cases hj : j < ds.length
    · rw [← h3 j hj, List.getElem?_map, ← h.got j (by omega)]
      rfl
    · rw [List.getElem?_eq_none (by rw [List.length_map]; omega), List.getElem?_eq_none (by omega)]
  · have e : ev E = fun y => if V.ex ≤ y ∧ y < V.ex + ds.length then none else ev E0 y := by
      funext y
      unfold ev
      rw [h.rest]
      dsimp only
      rw [hl]
      by_cases hy : V.ex ≤ y ∧ y < V.ex + ds.length
      · rw [if_pos hy, if_pos hy]
        rfl
      · rw [if_neg hy, if_neg hy]
    rw [e]
    exact h2
/-- a link and the document's hold the same. -/
structure SdR (L : Lk) (V : Rv) : Prop where
  ep : L.epoch = V.ep
  pe : L.peer = V.pe
  ba : L.base = V.ba
  ex : L.expects = V.ex
  outs : L.sent.map (·.2.2) = V.outs
  ear : EarR (ev L.early) V.ers
  no : L.early L.expects = none
theorem SdR.met {L : Lk} {V : Rv} (h : SdR L V) (ep : Nat) : SdR (metL L ep) (metV V ep) := by
  unfold metL metV
  rw [h.pe]
  by_cases hp : V.pe < ep
  · rw [if_pos hp, if_pos hp]
    exact ⟨h.ep, rfl, rfl, rfl, h.outs, ⟨fun s d => ⟨fun e => (by cases e), fun e => (by cases e)⟩, List.nodup_nil⟩, rfl⟩
  · rw [if_neg hp, if_neg hp]
    exact h
theorem SdR.acked {L : Lk} {V V' : Rv} (h : SdR L V) {ak : Nat} (hA : AckV V ak V') (h1 : 1 ≤ V.ba) (hb : V.ba + 20 < 2 ^ 64) (hl : V.outs.length ≤ 16) (hak : ak < 2 ^ 64) : SdR (acked L ak) V' ∧ V'.ba ≤ V.ba + 16 ∧ 1 ≤ V'.ba ∧ V'.ex = V.ex ∧ V'.ep = V.ep ∧ V'.pe = V.pe := by
  obtain ⟨k, hk, hle, hstop, rfl⟩ := hA
  have hlen : L.sent.length = V.outs.length := by rw [← h.outs, List.length_map]
  have hm : (V.ba + k) % 2 ^ 64 = V.ba + k := Nat.mod_eq_of_lt (by omega)
  rw [hm] at hstop ⊢
  refine ⟨?_, by show V.ba + k ≤ _; omega, by show 1 ≤ V.ba + k; omega, rfl, rfl, rfl⟩
  have hk1 : 0 < k → V.ba + (k - 1) ≤ ak := fun hp => by
    have := hle (k - 1) (by omega)
    rwa [Nat.mod_eq_of_lt (by omega)] at this
  unfold Proofs.Ytchlafhmoncldaa.acked
  rw [h.ba]
  by_cases ha : ak < V.ba
  · obtain rfl : k = 0 := by
      rcases Nat.eq_zero_or_pos k with e | e
      · exact e
      · have := hk1 e
        omega
    rw [if_pos ha]
    exact ⟨h.ep, h.pe, h.ba, h.ex, h.outs, h.ear, h.no⟩
  · rw [if_neg ha]
    have hn : ackN L ak = k := by
      unfold ackN
      rw [h.ba, hlen]
      rcases Nat.eq_zero_or_pos k with e | e
      · subst e
        rcases hstop with e | e
        · omega
        · omega
      · have := hk1 e
        rw [Nat.mod_eq_of_lt (by omega)]
        omega
    rw [hn, hm]
    exact ⟨h.ep, h.pe, rfl, h.ex, by show (L.sent.drop k).map _ = _; rw [List.map_drop, h.outs], h.ear, h.no⟩
theorem SdR.came {L L' : Lk} {V V2 V' : Rv} (h : SdR L V) {seq : Nat} {d : Bs} {ps : List Prt} {ds : List Bs} (hc : CameD L seq d ps L') (ha : AddV V seq d V2) (hd : DrV V2 ds V') (hno : ∀ y ∈ V'.ers, y.1 ≠ V'.ex) (hs : V.ex + ds.length < 2 ^ 64) : ps.map (·.2.2) = ds ∧ SdR L' V' := by
  have hwin : ∀ E0 E : Nat → Option Prt, Drained E0 L.expects ps.length ps E → E (L.expects + ps.length) = none → EarR (ev E0) V2.ers → V2.ex = V.ex → V2.ep = V.ep → V2.pe = V.pe → V2.ba = V.ba → V2.outs = V.outs → ∀ n, ps.map (·.2.2) = ds ∧ SdR { L with expects := L.expects + ps.length, n := n, early := E } V' := fun E0 E h1 h2 h3 e1 e2 e3 e4 e5 n => by
    obtain ⟨r1, r2, r3⟩ := drained_eq h1 h2 hd h3 (by rw [e1, h.ex]) hno (by rw [e1]; exact hs)
    have hl : ps.length = ds.length := by rw [← r1, List.length_map]
    refine ⟨r1, ⟨?_, ?_, ?_, ?_, ?_, r2, h2⟩⟩
    · rw [r3]; exact h.ep.trans e2.symm
    · rw [r3]; exact h.pe.trans e3.symm
    · rw [r3]; exact h.ba.trans e4.symm
    · rw [r3]
      show L.expects + ps.length = V2.ex + ds.length
      rw [h.ex, e1, hl]
    · rw [r3]; exact h.outs.trans e5.symm
  unfold CameD at hc
  by_cases hw : seq < L.expects ∨ L.expects + 16 ≤ seq
  · rw [if_pos hw] at hc
    obtain ⟨rfl, rfl⟩ := hc
    rcases ha with ⟨hf, rfl⟩ | ⟨hf, rfl⟩
    · have := h.ex
      have h1 := hf.1
      have h2 := hf.2.1
      omega
    · have hq := hwin L'.early L'.early ⟨rfl, fun j hj => absurd hj (Nat.not_lt_zero _), by funext y; rw [if_neg (by rw [List.length_nil]; omega)]⟩ h.no h.ear rfl rfl rfl rfl rfl L'.n
      exact hq
  · rw [if_neg hw] at hc
    obtain ⟨p, n, E, hp, hdr, rfl, _, hend⟩ := hc
    have hxe := h.ex
    rcases ha with ⟨hf, rfl⟩ | ⟨hf, rfl⟩
    · have hnone : L.early seq = none := by
        have := h.ear.no hf.2.2
        unfold ev at this
        exact Option.map_eq_none_iff.1 this
      refine hwin _ E hdr hend ?_ rfl rfl rfl rfl rfl n
      have e : ev (waits L seq p) = fun y => if y = seq then some d else ev L.early y := by
        funext y
        unfold ev waits
        by_cases hy : y = seq
        · rw [if_pos hy, if_pos hy, hnone]
          show some p.2.2 = _
          rw [hp]
        · rw [if_neg hy, if_neg hy]
      rw [e]
      exact h.ear.add (by unfold ev; rw [hnone]; rfl)
    · refine hwin _ E hdr hend ?_ rfl rfl rfl rfl rfl n
      have hsome : (L.early seq).isSome = true := by
        cases he : L.early seq with
        | some q => rfl
        | none =>
          refine absurd ⟨by omega, by omega, ?_⟩ hf
          exact h.ear.fresh (by unfold ev; rw [he]; rfl)
      have e : ev (waits L seq p) = ev L.early := by
        funext y
        unfold ev waits
        by_cases hy : y = seq
        · rw [if_pos hy, if_pos hsome, hy]
        · rw [if_neg hy]
      rw [e]
      exact h.ear
theorem SdR.ans {L : Lk} {V : Rv} (h : SdR L V) {x : Pk} (hx : AnsD L x) : pkd x = ansV V := by
  obtain ⟨h1, h2, h3, h4, h5⟩ := hx
  unfold pkd ansV
  rw [h1, h2, h3, h4, h5, h.ep, h.pe, h.ex]
/-- Receive on both sides. -/
theorem SdR.receive {L L' : Lk} {V V' : Rv} (h : SdR L V) {P : Pk} {ps : List Prt} {xs : List Pk} {ds : List Bs} {ys : List (Nat × Nat × Nat × Nat × Bs)} (hD : RecD L P ps xs L') (hV : RecV V P ds ys V') (h1 : 1 ≤ V.ba) (hb : V.ba + 20 < 2 ^ 64) (hl : V.outs.length ≤ 16) (hak : P.ak < 2 ^ 64) (hs : V.ex + ds.length + 2 < 2 ^ 64) :
    ps.map (·.2.2) = ds ∧ xs.map pkd = ys ∧ SdR L' V' := by
  unfold RecD at hD
  unfold RecV at hV
  rw [h.pe, h.ep] at hD
  by_cases c1 : P.ep = 0 ∨ P.ep < V.pe
  · rw [if_pos c1] at hD hV
    obtain ⟨rfl, rfl, rfl⟩ := hD
    obtain ⟨rfl, rfl, rfl⟩ := hV
    exact ⟨rfl, rfl, h⟩
  rw [if_neg c1] at hD hV
  have hm := h.met P.ep
  by_cases c2 : P.pe ≠ V.ep
  · rw [if_pos c2] at hD hV
    obtain ⟨rfl, ⟨x, rfl, hx⟩, rfl⟩ := hD
    obtain ⟨rfl, rfl, rfl⟩ := hV
    exact ⟨rfl, by rw [List.map_singleton, hm.ans hx], hm⟩
  rw [if_neg c2] at hD hV
  have hmb : 1 ≤ (metV V P.ep).ba ∧ (metV V P.ep).ba + 20 < 2 ^ 64 ∧ (metV V P.ep).outs.length ≤ 16 ∧ (metV V P.ep).ex ≤ V.ex + 1 := by
    unfold metV
    split
    · exact ⟨Nat.le_refl _, by show 1 + 20 < _; omega, hl, by show 1 ≤ _; omega⟩
    · exact ⟨h1, hb, hl, Nat.le_succ _⟩
  by_cases c3 : P.sq = 0
  · rw [if_pos c3] at hD hV
    obtain ⟨rfl, rfl, rfl⟩ := hD
    obtain ⟨rfl, rfl, hA⟩ := hV
    exact ⟨rfl, rfl, (hm.acked hA hmb.1 hmb.2.1 hmb.2.2.1 hak).1⟩
  rw [if_neg c3] at hD hV
  obtain ⟨⟨x, rfl, hx⟩, hc⟩ := hD
  obtain ⟨V1, V2, hA, ha, hd, hno, rfl⟩ := hV
  obtain ⟨k1, _, _, k4, _⟩ := hm.acked hA hmb.1 hmb.2.1 hmb.2.2.1 hak
  obtain ⟨r1, r2⟩ := k1.came hc ha hd hno (by rw [k4]; omega)
  exact ⟨r1, by rw [List.map_singleton, r2.ans hx], r2⟩
end Go.Proofs.Ytchlafhmoncldaa
