/- How the law reads a message: plain mathematics. No condition. -/
import Derived.Test.YtdpjmkgjjhcgeaaDoorDec
namespace Go.Proofs.YtdpjmkgjjhcgeaaDoor
open Go.RowKit

theorem numGo_errLe (t : List UInt8) : ∀ k n, (numGo k n t).2.2 ≤ 31 := by
  induction t with
  | nil => intro k n; simp [numGo]
  | cons b t ih =>
    intro k n
    rw [numGo]
    split
    · simp
    · split
      · exact ih _ _
      · split
        · simp
        · simp
def errN (r : List UInt8) : Nat := (rdNum r).2.2
def errT (r : List UInt8) : Nat := (rdText r).2.2
theorem errN_le (r : List UInt8) : errN r ≤ 31 := numGo_errLe r 0 0
theorem errT_le (r : List UInt8) : errT r ≤ 31 := by
  unfold errT rdText
  split
  · split <;> simp
  · exact numGo_errLe r 0 0

theorem numGo_canon (l : List UInt8) : ∀ k acc n, k ≤ 9 → numGo k acc l = (n, k + l.length, 0) → ∃ m, l = num m ∧ n = acc + m * 128 ^ k ∧ (0 < k → 0 < m) := by
  induction l with
  | nil => intro k acc n _ h; cases h
  | cons b t ih =>
    intro k acc n hk h
    have hb : b.toNat < 256 := b.toNat_lt
    by_cases h9 : k = 9 ∧ 1 < b.toNat
    · rw [numGo_form h9] at h
      injection h with _ h
      injection h with _ h
      cases h
    by_cases h1 : 128 ≤ b.toNat
    · rw [numGo_on (by omega) h1] at h
      rw [List.length_cons, show k + (t.length + 1) = k + 1 + t.length by omega] at h
      obtain ⟨m, rfl, hn, hm⟩ := ih (k + 1) _ n (by omega) h
      refine ⟨m * 128 + b.toNat % 128, ?_, ?_, fun _ => by have := hm (by omega); omega⟩
      · rw [num_ge (n := m * 128 + b.toNat % 128) (by have := hm (by omega); omega), show (m * 128 + b.toNat % 128) / 128 = m by omega]
        congr 1
        apply UInt8.toNat_inj.1
        rw [UInt8.toNat_ofNat']
        omega
      · rw [hn, Nat.pow_succ, Nat.add_mul, Nat.mul_comm (128 ^ k) 128, ← Nat.mul_assoc]
        omega
    · by_cases h0 : b.toNat = 0 ∧ 0 < k
      · rw [numGo_nought h9 h0.1 h0.2] at h
        injection h with _ h
        injection h with _ h
        cases h
      · rw [numGo_end h9 h1 h0] at h
        injection h with ha h
        injection h with hs _
        rw [List.length_cons] at hs
        obtain rfl : t = [] := List.length_eq_zero_iff.1 (by omega)
        refine ⟨b.toNat, ?_, ?_, fun h => by omega⟩
        · rw [num_lt (by omega)]
          congr 1
          apply UInt8.toNat_inj.1
          rw [UInt8.toNat_ofNat']
          omega
        · rw [← ha, Nat.mod_eq_of_lt (by omega)]
/-- what a number's reading leaves: it only looks at what it takes. -/
theorem numGo_take (t : List UInt8) : ∀ k n, (numGo k n t).2.2 = 0 → k ≤ (numGo k n t).2.1 ∧ numGo k n (t.take ((numGo k n t).2.1 - k)) = numGo k n t ∧ (numGo k n t).2.1 - k ≤ t.length := by
  induction t with
  | nil => intro k n h; simp [numGo] at h
  | cons b t ih =>
    intro k n h
    rw [numGo] at h ⊢
    split at h
    · cases h
    · rename_i h1
      rw [if_neg h1]
      split at h
      · rename_i h2
        rw [if_pos h2]
        obtain ⟨i1, i2, i3⟩ := ih (k + 1) _ h
        refine ⟨by omega, ?_, by rw [List.length_cons]; omega⟩
        have e : (numGo (k + 1) (n + b.toNat % 128 * 128 ^ k) t).2.1 - k = ((numGo (k + 1) (n + b.toNat % 128 * 128 ^ k) t).2.1 - (k + 1)) + 1 := by omega
        rw [e, List.take_succ_cons, numGo, if_neg h1, if_pos h2, i2]
      · rename_i h2
        rw [if_neg h2]
        split at h
        · cases h
        · rename_i h3
          rw [if_neg h3]
          refine ⟨by simp, ?_, by simp⟩
          simp only [Nat.add_sub_cancel_left, List.take_succ_cons, List.take_zero]
          rw [numGo, if_neg h1, if_neg h2, if_neg h3]
theorem canonN {r : List UInt8} (h : errN r = 0) : r = num (rN r).1 ++ (rN r).2 ∧ (rN r).1 < 2 ^ 64 ∧ (rN r).2.length + 1 ≤ r.length := by
  obtain ⟨_, h2, h3⟩ := numGo_take r 0 0 h
  have hl : (rdNum r).2.1 ≤ r.length := by have := h3; rw [Nat.sub_zero] at this; exact this
  have h4 : numGo 0 0 (r.take (rdNum r).2.1) = ((rdNum r).1, 0 + (r.take (rdNum r).2.1).length, 0) := by
    have h2' := h2
    rw [Nat.sub_zero] at h2'
    show numGo 0 0 (r.take (numGo 0 0 r).2.1) = _
    rw [h2', List.length_take, Nat.min_eq_left hl]
    have h5 : (numGo 0 0 r).2.2 = 0 := h
    rw [Nat.zero_add]
    exact Prod.ext rfl (Prod.ext rfl h5)
  obtain ⟨m, e1, e2, _⟩ := numGo_canon _ 0 0 _ (by omega) h4
  have e3 : m = (rN r).1 := by
    unfold rN
    rw [e2]; simp
  refine ⟨?_, rN_lt r, ?_⟩
  · rw [← e3, ← e1]
    unfold rN
    exact (List.take_append_drop _ _).symm
  · have h6 := List.length_pos_iff.2 (num_ne m)
    rw [← e1, List.length_take] at h6
    unfold rN
    rw [List.length_drop]
    omega
theorem canonT {r : List UInt8} (h : errT r = 0) : r = textB (rT r).1 ++ (rT r).2 ∧ (rT r).1.length < 2 ^ 64 ∧ (rT r).2.length + 1 ≤ r.length := by
  unfold errT rdText at h
  by_cases h0 : (rdNum r).2.2 = 0
  · rw [if_pos h0] at h
    by_cases h1 : r.length - (rdNum r).2.1 < (rdNum r).1
    · rw [if_pos h1] at h; cases h
    · obtain ⟨c1, c2, c3⟩ := canonN (r := r) h0
      have hs := rdNum_size r
      have e1 : (rT r).1 = ((rN r).2).take (rN r).1 := by
        unfold rT rdText rN
        rw [if_pos h0, if_neg h1]
      have e2 : (rT r).2 = ((rN r).2).drop (rN r).1 := by
        unfold rT rdText rN
        rw [if_pos h0, if_neg h1]
        rw [List.drop_drop]
      have hle : (rN r).1 ≤ ((rN r).2).length := by
        unfold rN
        rw [List.length_drop]
        exact Nat.le_of_not_lt h1
      refine ⟨?_, ?_, ?_⟩
      · rw [e1, e2]
        unfold textB
        rw [List.length_take, Nat.min_eq_left hle, List.append_assoc, List.take_append_drop]
        exact c1
      · rw [e1, List.length_take]; omega
      · rw [e2, List.length_drop]; omega
  · rw [if_neg h0] at h
    exact absurd h h0
theorem errN_app (n : Nat) (h : n < 2 ^ 64) (r : List UInt8) : errN (num n ++ r) = 0 := by unfold errN; rw [rdNum_app n r h]
theorem errT_app (t : Bs) (h : t.length < 2 ^ 64) (r : List UInt8) : errT (textB t ++ r) = 0 := by
  unfold errT rdText textB
  rw [List.append_assoc, rdNum_app _ _ h]
  simp only [if_pos]
  rw [if_neg (by simp only [List.length_append]; omega)]

/- a vote, votes. -/
def pvB (p : PV) : List UInt8 := num p.slot ++ (num p.ballot ++ textB p.value)
def errV (r : List UInt8) : Nat := errN r + errN (r1 r) + errT (r1 (r1 r))
def errs : Nat → List UInt8 → Nat
  | 0, _ => 0
  | k + 1, r => errs k r + errV (rep rVote k r).2
theorem canonV {r : List UInt8} (h : errV r = 0) : r = pvB (rVote r).1 ++ (rVote r).2 ∧ (rVote r).2.length + 1 ≤ r.length ∧ (rVote r).1.ballot < 2 ^ 64 := by
  unfold errV at h
  obtain ⟨a1, a2, a3⟩ := canonN (r := r) (by omega)
  obtain ⟨b1, b2, b3⟩ := canonN (r := r1 r) (by omega)
  obtain ⟨c1, c2, c3⟩ := canonT (r := r1 (r1 r)) (by omega)
  have e1 : (rN r).2 = r1 r := rfl
  have e2 : (rN (r1 r)).2 = r1 (r1 r) := rfl
  refine ⟨?_, ?_, b2⟩
  · show r = (num (rN r).1 ++ (num (rN (r1 r)).1 ++ textB (rT (r1 (r1 r))).1)) ++ (rT (r1 (r1 r))).2
    rw [List.append_assoc, List.append_assoc, ← c1, ← e2, ← b1, ← e1, ← a1]
  · show (rT (r1 (r1 r))).2.length + 1 ≤ _
    rw [e2] at b3
    rw [e1] at a3
    omega
theorem canonVs (r : List UInt8) : ∀ k, errs k r = 0 → r = (rep rVote k r).1.flatMap pvB ++ (rep rVote k r).2 ∧ (rep rVote k r).2.length + k ≤ r.length ∧ ∀ p ∈ (rep rVote k r).1, p.ballot < 2 ^ 64
  | 0, _ => ⟨rfl, by simp [rep], fun _ h => by cases h⟩
  | k + 1, h => by
    unfold errs at h
    obtain ⟨h1, h2, h3⟩ := canonVs r k (by omega)
    obtain ⟨v1, v2, v3⟩ := canonV (r := (rep rVote k r).2) (by omega)
    rw [rep_snoc]
    refine ⟨?_, by dsimp only; omega, ?_⟩
    · dsimp only
      rw [List.flatMap_append, List.append_assoc]
      conv => lhs; rw [h1, v1]
      simp
    · intro p hp
      rcases List.mem_append.1 hp with hp | hp
      · exact h3 p hp
      · rw [List.mem_singleton.1 hp]; exact v3
theorem errs_zero {r : List UInt8} {k j : Nat} (h : errs k r = 0) (hj : j ≤ k) : errs j r = 0 := by
  induction k with
  | zero => rw [Nat.le_zero.1 hj]; rfl
  | succ k ih =>
    unfold errs at h
    by_cases e : j = k + 1
    · rw [e]; unfold errs; exact h
    · exact ih (by omega) (by omega)

/- the six numbers ahead. -/
def it : Nat → List UInt8 → List UInt8
  | 0, l => l
  | k + 1, l => r1 (it k l)
def vl (k : Nat) (l : List UInt8) : Nat := (rN (it k l)).1
def ers : Nat → List UInt8 → Nat
  | 0, _ => 0
  | k + 1, l => ers k l + errN (it k l)
theorem ers_le (l : List UInt8) : ∀ k, ers k l ≤ 31 * k
  | 0 => by simp [ers]
  | k + 1 => by unfold ers; have := ers_le l k; have := errN_le (it k l); omega
theorem canon6 {l : List UInt8} (h : ers 6 l = 0) : l = num (vl 0 l) ++ (num (vl 1 l) ++ (num (vl 2 l) ++ (num (vl 3 l) ++ (num (vl 4 l) ++ (num (vl 5 l) ++ it 6 l))))) ∧ (it 6 l).length ≤ l.length ∧ vl 5 l < 2 ^ 64 := by
  have h' : 0 + errN (it 0 l) + errN (it 1 l) + errN (it 2 l) + errN (it 3 l) + errN (it 4 l) + errN (it 5 l) = 0 := h
  obtain ⟨a0, _, b0⟩ := canonN (r := it 0 l) (by omega)
  obtain ⟨a1, _, b1⟩ := canonN (r := it 1 l) (by omega)
  obtain ⟨a2, _, b2⟩ := canonN (r := it 2 l) (by omega)
  obtain ⟨a3, _, b3⟩ := canonN (r := it 3 l) (by omega)
  obtain ⟨a4, _, b4⟩ := canonN (r := it 4 l) (by omega)
  obtain ⟨a5, c5, b5⟩ := canonN (r := it 5 l) (by omega)
  refine ⟨?_, ?_, c5⟩
  · show it 0 l = num (rN (it 0 l)).1 ++ (num (rN (it 1 l)).1 ++ (num (rN (it 2 l)).1 ++ (num (rN (it 3 l)).1 ++ (num (rN (it 4 l)).1 ++ (num (rN (it 5 l)).1 ++ (rN (it 5 l)).2)))))
    rw [← a5]
    show it 0 l = num (rN (it 0 l)).1 ++ (num (rN (it 1 l)).1 ++ (num (rN (it 2 l)).1 ++ (num (rN (it 3 l)).1 ++ (num (rN (it 4 l)).1 ++ (rN (it 4 l)).2))))
    rw [← a4]
    show it 0 l = num (rN (it 0 l)).1 ++ (num (rN (it 1 l)).1 ++ (num (rN (it 2 l)).1 ++ (num (rN (it 3 l)).1 ++ (rN (it 3 l)).2)))
    rw [← a3]
    show it 0 l = num (rN (it 0 l)).1 ++ (num (rN (it 1 l)).1 ++ (num (rN (it 2 l)).1 ++ (rN (it 2 l)).2))
    rw [← a2]
    show it 0 l = num (rN (it 0 l)).1 ++ (num (rN (it 1 l)).1 ++ (rN (it 1 l)).2)
    rw [← a1]
    exact a0
  · have e0 : (it 0 l).length = l.length := rfl
    have q1 : (it 1 l).length = (rN (it 0 l)).2.length := rfl
    have q2 : (it 2 l).length = (rN (it 1 l)).2.length := rfl
    have q3 : (it 3 l).length = (rN (it 2 l)).2.length := rfl
    have q4 : (it 4 l).length = (rN (it 3 l)).2.length := rfl
    have q5 : (it 5 l).length = (rN (it 4 l)).2.length := rfl
    have q6 : (it 6 l).length = (rN (it 5 l)).2.length := rfl
    omega

def fewI (n most : Nat) : Int := if most < n then (most : Int) + 1 else (n : Int)
theorem fewI_eq {n most : Nat} (h : fewI n most ≤ (most : Int)) : fewI n most = (n : Int) ∧ n ≤ most := by
  unfold fewI at h ⊢
  split at h
  · omega
  · rename_i h1
    rw [if_neg h1]
    exact ⟨rfl, by omega⟩
theorem fewI_low {n most : Nat} (h : n ≤ most) : fewI n most = (n : Int) := by unfold fewI; rw [if_neg (by omega)]
def vr (p : PV) : Vt := ⟨fewI p.slot 63, p.ballot, p.value⟩
/-- what the law has read, k votes of it. -/
def mR (l : List UInt8) (k : Nat) (A : Option Addr) (c : Nat) : Mg :=
  ⟨fewI (vl 0 l) 9, fewI (vl 1 l) 8, fewI (vl 2 l) 8, fewI (vl 3 l) 3, fewI (vl 4 l) 64, vl 5 l, (rT (it 6 l)).1, A, c, (rep rVote k (rN (rT (it 6 l)).2).2).1.map vr⟩
def rest8 (l : List UInt8) : List UInt8 := (rN (rT (it 6 l)).2).2
def bad8 (l : List UInt8) : Nat := ers 6 l + (errT (it 6 l) + errN (rT (it 6 l)).2)
end Go.Proofs.YtdpjmkgjjhcgeaaDoor
