/- A checkpoint saved over another one while the power ends, reckoned. Plain mathematics. Condition: bodies of at most 5000 bytes. -/
import Derived.Test.YtokonhcphhpogaaDoorBesideP
namespace Go.Proofs.YtokonhcphhpogaaDoor
open Go.RowKit Go.Maps

def fc (d : Bs) : PF := ⟨[99], d, d.length⟩
def fd (d : Bs) (m : Nat) : PF := ⟨[99, 126], d, m⟩
theorem lt_dc : Op.bytesLess [99, 126] [99] = false := by decide
theorem at1 (A : Bs) (h : A.length ≤ 5000) : psave (pNew 65536) [99] A = (D2 [fc (pk A)], 0) := by
  have h1 := pk_small A h
  rw [psave_on (pNew 65536) rfl rfl [99] A (by simp) (by simp) (by simp [pNew, pdel]) (by simp [pNew, pdel, ptotal]; omega)]
  rfl
theorem atAgain (A : Bs) (h : A.length ≤ 5000) (X : Bs) (hX : X.length ≤ 5100) (L : List PF) (hL : L = [fc X] ∨ ∃ Y m, L = [fc X, fd Y m]) : psave (D2 L) [99] A = (D2 [fc (pk A)], 0) := by
  have h1 := pk_small A h
  have hd : pdel (D2 L).files (draft [99]) = [fc X] := by
    rcases hL with rfl | ⟨Y, m, rfl⟩
    · simp [D2, fc, pdel, draft]
    · simp [D2, fc, fd, pdel, draft]
  rw [psave_on (D2 L) rfl rfl [99] A (by simp) (by simp) (by rw [hd]; simp) (by rw [hd]; simp [D2, fc, ptotal]; omega), hd]
  simp [D2, fc, pdel, pins]
theorem at2 (A B : Bs) (h : A.length ≤ 5000) (h' : B.length ≤ 5000) (q : Int) (hq : 0 ≤ q) :
    (∃ m, m ≤ (pk B).length ∧ psave ⟨65536, q, false, [fc (pk A)]⟩ [99] B = (⟨65536, 0, true, [fc (pk A), fd (pk B) m]⟩, 3)) ∨ psave ⟨65536, q, false, [fc (pk A)]⟩ [99] B = (⟨65536, q - 3, false, [fc (pk B)]⟩, 0) := by
  have h1 := pk_small A h
  have h2 := pk_small B h'
  have hr : pRemove ⟨65536, q, false, [fc (pk A)]⟩ (draft [99]) = (⟨65536, q, false, [fc (pk A)]⟩, 60) := by simp [pRemove, pChange, fc, pfind, draft]
  have ha : pAppend ⟨65536, q, false, [fc (pk A)]⟩ (draft [99]) (pk B) = (pspend ⟨65536, q, false, [fc (pk A), fd (pk B) 0]⟩, if q = 0 then 3 else 0) := by
    unfold pAppend
    rw [if_neg (by simp), if_neg (by simp [isNm, draft]), if_neg (by simp [fc, pfind, draft, ptotal]; omega)]
    simp [fc, fd, pfind, draft, pput, pset, pins, lt_dc, pspendE]
  by_cases q0 : q = 0
  · subst q0
    refine .inl ⟨0, Nat.zero_le _, ?_⟩
    unfold psave
    rw [if_neg (by simp), hr, if_neg (by simp)]
    dsimp only
    rw [ha]
    simp [pspend]
  have ha' : pAppend ⟨65536, q, false, [fc (pk A)]⟩ (draft [99]) (pk B) = (⟨65536, q - 1, false, [fc (pk A), fd (pk B) 0]⟩, 0) := by
    rw [ha, if_neg q0]
    unfold pspend
    rw [if_neg q0, if_pos (by dsimp only; omega)]
  by_cases q1 : q = 1
  · subst q1
    have hs : pSync ⟨65536, 1 - 1, false, [fc (pk A), fd (pk B) 0]⟩ (draft [99]) = (⟨65536, 0, true, [fc (pk A), fd (pk B) 0]⟩, 3) := by simp [pSync, pChange, fc, fd, pfind, draft, pspend]
    refine .inl ⟨0, Nat.zero_le _, ?_⟩
    unfold psave
    rw [if_neg (by simp), hr, if_neg (by simp)]
    dsimp only
    rw [ha', if_neg (by simp)]
    dsimp only
    rw [hs]
    simp
  have hs : pSync ⟨65536, q - 1, false, [fc (pk A), fd (pk B) 0]⟩ (draft [99]) = (⟨65536, q - 2, false, [fc (pk A), fd (pk B) (pk B).length]⟩, 0) := by
    unfold pSync pChange
    rw [if_neg (by simp)]
    simp only [fc, fd, pfind, draft, List.cons_append, List.nil_append]
    rw [if_neg (by simp), if_pos trivial]
    dsimp only
    rw [if_neg (by simp), if_neg (by omega)]
    unfold pspend
    rw [if_neg (by dsimp only; omega), if_pos (by dsimp only; omega)]
    simp [pset]
    omega
  by_cases q2 : q = 2
  · subst q2
    have hn : pRename ⟨65536, 2 - 2, false, [fc (pk A), fd (pk B) (pk B).length]⟩ (draft [99]) [99] = (⟨65536, 0, true, [fc (pk A), fd (pk B) (pk B).length]⟩, 3) := by simp [pRename, pChange, fc, fd, pfind, draft, pspend, isNm]
    refine .inl ⟨(pk B).length, Nat.le_refl _, ?_⟩
    unfold psave
    rw [if_neg (by simp), hr, if_neg (by simp)]
    dsimp only
    rw [ha', if_neg (by simp)]
    dsimp only
    rw [hs, if_neg (by simp)]
    dsimp only
    exact hn
  have hn : pRename ⟨65536, q - 2, false, [fc (pk A), fd (pk B) (pk B).length]⟩ (draft [99]) [99] = (⟨65536, q - 3, false, [fc (pk B)]⟩, 0) := by
    unfold pRename pChange
    rw [if_neg (by simp)]
    simp only [fc, fd, pfind, draft, List.cons_append, List.nil_append]
    rw [if_neg (by simp), if_pos trivial]
    dsimp only
    rw [if_neg (by simp [isNm]), if_neg (by omega)]
    unfold pspend
    rw [if_neg (by dsimp only; omega), if_pos (by dsimp only; omega)]
    simp [pdel, pins]
    omega
  refine .inr ?_
  unfold psave
  rw [if_neg (by simp), hr, if_neg (by simp)]
  dsimp only
  rw [ha', if_neg (by simp)]
  dsimp only
  rw [hs, if_neg (by simp)]
  dsimp only
  exact hn
theorem at_load (A : Bs) (h : A.length ≤ 5000) (L : List PF) : pload (D2 (fc (pk A) :: L)) [99] = (A, 0) := by
  have e : pRead (D2 (fc (pk A) :: L)) [99] = (pk A, 0) := by simp [pRead, D2, fc, pfind]
  unfold pload
  rw [e, unpk_pk A (by omega)]
  rfl
theorem crash_fc (d : Bs) (k : Int) : pcrashF (fc d) k = fc d := by
  have e : pkeep (fc d) k = d.length := by
    unfold pkeep fc
    dsimp only
    rw [Nat.sub_self]
    simp
  unfold pcrashF
  rw [e]
  simp [fc]
/-- whatever becomes of a Save: the answer, what is loaded behind a crash, and that it can be saved anew. -/
theorem atomic (A B : Bs) (h : A.length ≤ 5000) (h' : B.length ≤ 5000) (q : Int) (hq : 0 ≤ q) (ks : List Int) :
    ((psave ⟨65536, q, false, [fc (pk A)]⟩ [99] B).2 = 0 ∧ pload (pCrash (psave ⟨65536, q, false, [fc (pk A)]⟩ [99] B).1 ks) [99] = (B, 0) ∨ (psave ⟨65536, q, false, [fc (pk A)]⟩ [99] B).2 = 3 ∧ pload (pCrash (psave ⟨65536, q, false, [fc (pk A)]⟩ [99] B).1 ks) [99] = (A, 0)) ∧
    psave (pCrash (psave ⟨65536, q, false, [fc (pk A)]⟩ [99] B).1 ks) [99] A = (D2 [fc (pk A)], 0) := by
  rcases at2 A B h h' q hq with ⟨m, hm, e⟩ | e
  · rw [e]
    have ec : pCrash ⟨65536, 0, true, [fc (pk A), fd (pk B) m]⟩ ks = D2 [fc (pk A), pcrashF (fd (pk B) m) (ks.tail.headD 0)] := by
      show (⟨65536, -1, false, [pcrashF (fc (pk A)) _, pcrashF _ _]⟩ : PD) = _
      rw [crash_fc]
      rfl
    dsimp only
    rw [ec]
    exact ⟨.inr ⟨rfl, at_load A h _⟩, atAgain A h (pk A) (pk_small A h) _ (.inr ⟨_, _, rfl⟩)⟩
  · rw [e]
    have ec : pCrash ⟨65536, q - 3, false, [fc (pk B)]⟩ ks = D2 [fc (pk B)] := by
      show (⟨65536, -1, false, [pcrashF (fc (pk B)) _]⟩ : PD) = _
      rw [crash_fc]
      rfl
    dsimp only
    rw [ec]
    exact ⟨.inl ⟨rfl, at_load B h' _⟩, atAgain A h (pk B) (pk_small B h') _ (.inl rfl)⟩
end Go.Proofs.YtokonhcphhpogaaDoor
