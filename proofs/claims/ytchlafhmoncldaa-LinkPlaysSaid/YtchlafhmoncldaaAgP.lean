/- Packets that come again, by the data alone. Conditions: at most 16 data. -/
import Derived.Test.YtchlafhmoncldaaLive
namespace Go.Proofs.Ytchlafhmoncldaa
open Go.RowKit Go.Maps Go.ChangeMaps Go.MapKept Go.WideShapes

/-- the side that gets: got is a beginning of D, what came early is of D, and all of K has come. -/
structure Ag (D : List Bs) (K : Nat → Prop) (t : Nat) (L : Lk) (got : List Bs) : Prop where
  ep : L.epoch = 9
  pe : L.peer = 2
  ba : L.base = 1
  lo : 1 ≤ L.expects
  hi : L.expects ≤ D.length + 1
  num : L.expects + L.n ≤ t + 1
  got : got = D.take (L.expects - 1)
  ear : ∀ y p, L.early y = some p → L.expects < y ∧ y ≤ D.length ∧ D[y - 1]? = some p.2.2
  cov : ∀ k, K k → k + 1 < L.expects ∨ (L.early (k + 1)).isSome = true
theorem Ag.all {D : List Bs} {K : Nat → Prop} {t : Nat} {L : Lk} {got : List Bs} (h : Ag D K t L got) (hK : ∀ k, k < D.length → K k) : L.expects = D.length + 1 ∧ got = D := by
  have h1 : L.expects = D.length + 1 := by
    have h2 := h.hi
    have h3 := h.lo
    rcases Nat.lt_or_ge L.expects (D.length + 1) with h4 | h4
    · rcases h.cov (L.expects - 1) (hK _ (by omega)) with h5 | h5
      · omega
      · rw [show L.expects - 1 + 1 = L.expects by omega] at h5
        obtain ⟨p, hp⟩ := Option.isSome_iff_exists.1 h5
        have := (h.ear _ p hp).1
        omega
    · omega
  exact ⟨h1, by rw [h.got, h1, Nat.add_sub_cancel, List.take_length]⟩
theorem take_more {α : Type} (D : List α) (a : Nat) (ps : List α) (h : ∀ i, i < ps.length → D[a + i]? = ps[i]?) : D.take a ++ ps = D.take (a + ps.length) := by
  induction ps generalizing a with
  | nil => simp
  | cons x t ih =>
    have h0 := h 0 (by simp)
    simp only [Nat.add_zero, List.getElem?_cons_zero] at h0
    have h1 := ih (a + 1) (fun i hi => by
      have := h (i + 1) (by simp; omega)
      rw [List.getElem?_cons_succ] at this
      rw [← this]
      congr 1
      omega)
    rw [List.take_add_one, h0] at h1
    rw [List.length_cons, show a + (t.length + 1) = a + 1 + t.length by omega, ← h1]
    simp
theorem Ag.rec_ {D : List Bs} {K : Nat → Prop} {t : Nat} {L L' : Lk} {got : List Bs} (h : Ag D K t L got) (hD : D.length ≤ 16) {j : Nat} {P : Pk} (hj : D[j]? = some P.d.2.2) (h1 : P.ep = 2) (h2 : P.pe = 9) (h3 : P.sq = j + 1) (h4 : P.ak = 0) {ps : List Prt} {xs : List Pk} (hr : RecD L P ps xs L') :
    Ag D (fun k => K k ∨ k = j) (t + 1) L' (got ++ ps.map (·.2.2)) ∧ (L.expects = D.length + 1 → ps = []) := by
  have hlo := h.lo
  have hhi := h.hi
  have hjl := (List.getElem?_eq_some_iff.1 hj).1
  unfold RecD at hr
  rw [if_neg (by rw [h1, h.pe]; omega), if_neg (by rw [h2, h.ep]; simp), if_neg (by omega)] at hr
  obtain ⟨_, hc⟩ := hr
  have hm : acked (metL L P.ep) P.ak = L := by
    have e1 : metL L P.ep = L := by unfold metL; rw [if_neg (by rw [h.pe, h1]; omega)]
    rw [e1, h4]
    unfold acked
    rw [if_pos (by rw [h.ba]; omega)]
  rw [hm] at hc
  unfold CameD at hc
  split at hc
  · rename_i hcc
    obtain ⟨rfl, rfl⟩ := hc
    refine ⟨⟨h.ep, h.pe, h.ba, h.lo, h.hi, by have := h.num; omega, by simpa using h.got, h.ear, fun k hk => ?_⟩, fun _ => rfl⟩
    rcases hk with hk | rfl
    · exact h.cov k hk
    · left; omega
  · rename_i hcc
    obtain ⟨p, n, E, hpd, hdr, rfl, hn, hE⟩ := hc
    have hw : ∀ y q, waits L P.sq p y = some q → L.expects ≤ y ∧ y ≤ D.length ∧ D[y - 1]? = some q.2.2 := by
      intro y q hq
      unfold waits at hq
      by_cases hy : y = P.sq
      · rw [if_pos hy] at hq
        by_cases he : (L.early P.sq).isSome = true
        · rw [if_pos he] at hq
          rw [← hy] at hq
          obtain ⟨a, b, c⟩ := h.ear y q hq
          exact ⟨by omega, b, c⟩
        · rw [if_neg he] at hq
          injection hq with hq
          subst hq
          refine ⟨by omega, by omega, ?_⟩
          rw [hy, h3, Nat.add_sub_cancel, hj, hpd]
      · rw [if_neg hy] at hq
        obtain ⟨a, b, c⟩ := h.ear y q hq
        exact ⟨by omega, b, c⟩
    have hps : ∀ i, i < ps.length → ∃ q, ps[i]? = some q ∧ L.expects + i ≤ D.length ∧ D[L.expects + i - 1]? = some q.2.2 := by
      intro i hi
      obtain ⟨q, hq⟩ : ∃ q, ps[i]? = some q := ⟨_, List.getElem?_eq_getElem hi⟩
      have h5 := hdr.got i hi
      rw [hq] at h5
      obtain ⟨_, b, c⟩ := hw _ q h5
      exact ⟨q, hq, b, c⟩
    have hl : L.expects + ps.length ≤ D.length + 1 := by
      rcases Nat.eq_zero_or_pos ps.length with h0 | h0
      · omega
      · obtain ⟨_, _, b, _⟩ := hps (ps.length - 1) (by omega)
        omega
    refine ⟨⟨h.ep, h.pe, h.ba, by show 1 ≤ L.expects + ps.length; omega, hl, by have := h.num; show L.expects + ps.length + n ≤ _; omega, ?_, ?_, ?_⟩, fun he => ?_⟩
    · show got ++ _ = D.take (L.expects + ps.length - 1)
      rw [h.got, take_more D (L.expects - 1) (ps.map (·.2.2)) (fun i hi => ?_), List.length_map]
      · congr 1
        omega
      · rw [List.length_map] at hi
        obtain ⟨q, hq, _, c⟩ := hps i hi
        rw [List.getElem?_map, hq, show L.expects - 1 + i = L.expects + i - 1 by omega, c]
        rfl
    · intro y q hq
      have hq' : E y = some q := hq
      have hne : y ≠ L.expects + ps.length := fun e => by rw [e, hE] at hq'; cases hq'
      have hr := hdr.rest
      rw [hr] at hq'
      simp only at hq'
      split at hq'
      · cases hq'
      · rename_i hny
        obtain ⟨a, b, c⟩ := hw y q hq'
        exact ⟨by show L.expects + ps.length < y; omega, b, c⟩
    · intro k hk
      have hsome : k + 1 < L.expects ∨ (waits L P.sq p (k + 1)).isSome = true := by
        rcases hk with hk | rfl
        · rcases h.cov k hk with h5 | h5
          · exact .inl h5
          · right
            unfold waits
            by_cases hy : k + 1 = P.sq
            · rw [if_pos hy]
              by_cases he : (L.early P.sq).isSome = true
              · rw [if_pos he]; exact he
              · rw [if_neg he]; rfl
            · rw [if_neg hy]; exact h5
        · right
          unfold waits
          rw [if_pos h3.symm]
          by_cases he : (L.early P.sq).isSome = true
          · rw [if_pos he]; exact he
          · rw [if_neg he]; rfl
      show k + 1 < L.expects + ps.length ∨ (E (k + 1)).isSome = true
      rcases hsome with h5 | h5
      · left; omega
      · rw [hdr.rest]
        simp only
        by_cases hy : L.expects ≤ k + 1 ∧ k + 1 < L.expects + ps.length
        · left; exact hy.2
        · right
          rw [if_neg hy]
          exact h5
    · rcases Nat.eq_zero_or_pos ps.length with h0 | h0
      · exact List.eq_nil_of_length_eq_zero h0
      · omega
theorem ag_new {D : List Bs} {gm : Nat} {P : Pk} (h1 : P.ep = 2) (h2 : P.pe = 0) {L' : Lk} {ps : List Prt} {xs : List Pk} (hr : RecD ⟨9, 0, 1, 1, none, 0, [], gm, 0, fun _ => none⟩ P ps xs L') : Ag D (fun _ => False) 0 L' [] ∧ ps = [] := by
  unfold RecD metL at hr
  rw [if_neg (by rw [h1]; simp), if_pos (by rw [h2]; simp), if_pos (by rw [h1]; show 0 < 2; omega)] at hr
  obtain ⟨rfl, _, rfl⟩ := hr
  exact ⟨⟨rfl, h1, rfl, Nat.le_refl _, by show 1 ≤ _; omega, Nat.le_refl _, rfl, (fun _ _ h => by cases h), fun _ h => h.elim⟩, rfl⟩
end Go.Proofs.Ytchlafhmoncldaa
