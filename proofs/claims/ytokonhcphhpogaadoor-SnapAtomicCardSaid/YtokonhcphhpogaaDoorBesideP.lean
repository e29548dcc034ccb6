/- Two checkpoints on one disk, reckoned. Plain mathematics. Condition: bodies of at most 5000 bytes. -/
import Derived.Test.YtokonhcphhpogaaDoorSaveP
namespace Go.Proofs.YtokonhcphhpogaaDoor
open Go.RowKit Go.Maps

def D2 (L : List PF) : PD := ⟨65536, -1, false, L⟩
def fa (d : Bs) : PF := ⟨[97], d, d.length⟩
def fb (d : Bs) : PF := ⟨[98], d, d.length⟩
theorem lt_ab : Op.bytesLess [97] [98] = true := by decide
theorem lt_ba : Op.bytesLess [98] [97] = false := by decide
theorem bes1 (A : Bs) (h : A.length ≤ 5000) : psave (pNew 65536) [97] A = (D2 [fa (pk A)], 0) := by
  have h1 := pk_small A h
  rw [psave_on (pNew 65536) rfl rfl [97] A (by simp) (by simp) (by simp [pNew, pdel]) (by simp [pNew, pdel, ptotal]; omega)]
  rfl
theorem bes2 (A B : Bs) (h : A.length ≤ 5000) (h' : B.length ≤ 5000) : psave (D2 [fa (pk A)]) [98] B = (D2 [fa (pk A), fb (pk B)], 0) := by
  have h1 := pk_small A h
  have h2 := pk_small B h'
  rw [psave_on (D2 [fa (pk A)]) rfl rfl [98] B (by simp) (by simp) (by simp [D2, fa, pdel, draft]) (by simp [D2, fa, pdel, ptotal, draft]; omega)]
  simp [D2, fa, fb, pdel, pins, draft, lt_ba]
theorem bes3 (A B C : Bs) (h : A.length ≤ 5000) (h' : B.length ≤ 5000) (h'' : C.length ≤ 5000) : psave (D2 [fa (pk A), fb (pk B)]) [97] C = (D2 [fa (pk C), fb (pk B)], 0) := by
  have h1 := pk_small A h
  have h2 := pk_small B h'
  have h3 := pk_small C h''
  rw [psave_on (D2 [fa (pk A), fb (pk B)]) rfl rfl [97] C (by simp) (by simp) (by simp [D2, fa, fb, pdel, draft]) (by simp [D2, fa, fb, pdel, ptotal, draft]; omega)]
  simp [D2, fa, fb, pdel, pins, draft, lt_ab]
theorem besA (A B : Bs) (h : A.length ≤ 5000) : pload (D2 [fa (pk A), fb (pk B)]) [97] = (A, 0) := by
  have e : pRead (D2 [fa (pk A), fb (pk B)]) [97] = (pk A, 0) := by simp [pRead, D2, fa, pfind]
  unfold pload
  rw [e, unpk_pk A (by omega)]
  rfl
theorem besB (A B : Bs) (h : B.length ≤ 5000) : pload (D2 [fa (pk A), fb (pk B)]) [98] = (B, 0) := by
  have e : pRead (D2 [fa (pk A), fb (pk B)]) [98] = (pk B, 0) := by simp [pRead, D2, fa, fb, pfind]
  unfold pload
  rw [e, unpk_pk B (by omega)]
  rfl
theorem besC (A B : Bs) : pload (D2 [fa (pk A), fb (pk B)]) [99] = ([], 60) := by
  have e : pRead (D2 [fa (pk A), fb (pk B)]) [99] = ([], 60) := by simp [pRead, D2, fa, fb, pfind]
  unfold pload
  rw [e]
  rfl
end Go.Proofs.YtokonhcphhpogaaDoor
