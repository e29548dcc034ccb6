/- The document's example of a log, on its disk. Plain mathematics. No condition. -/
import Derived.Test.YthnaggmafbhdmaaDoorInv2
namespace Go.Proofs.YthnaggmafbhdmaaDoor
open Go.RowKit Go.Maps

theorem lopen_new (r : Nat) (n : Bs) (sz : Nat) : lopen (pNew r) n sz = (pNew r, PL.new n sz) := by
  have e : lread 10 (pNew r) 0 (PL.new n sz) = (pNew r, PL.new n sz) := lread_none rfl
  unfold lopen lrem
  rw [e]
  show (({ pNew r with files := ldel n 0 9 [] } : PD), _) = _
  rw [ldel_up n 0 9 [] fun _ _ _ => rfl]
  rfl
def one : Bs := [111, 110, 101]
def two : Bs := [116, 119, 111]
def pOne (fs : Bs) (l : Nat) : PD := ⟨1000, -1, false, [⟨[119, 48], fs, l⟩]⟩
def lOne (used : Nat) (wt : Bool) (rs : List Bs) : PL := ⟨[119], 100, 0, used, wt, rs⟩
theorem len_one : (frameOf one).length = 9 := by rw [frameOf_len]; rfl
theorem len_two : (frameOf two).length = 9 := by rw [frameOf_len]; rfl
theorem lfile_w : lfile [119] 0 = [119, 48] := rfl
theorem spk1 : lappend (pNew 1000) (PL.new [119] 100) one = (pOne (frameOf one) 0, lOne 9 true [one], 0) := by
  have h9 := len_one
  have e : pAppend (pNew 1000) (lfile (PL.new [119] 100).name (PL.new [119] 100).last) (frameOf one) = (pOne (frameOf one) 0, 0) := by
    show pAppend (pNew 1000) [119, 48] (frameOf one) = _
    generalize frameOf one = f at *
    simp [pNew, pOne, pAppend, pfind, ptotal, isNm, pspend, pspendE, pput, pins, pset]
    omega
  unfold lappend
  rw [if_neg (by show ¬ (0 < 0 ∧ _); omega)]
  unfold lput
  rw [e, if_pos rfl, h9]
  rfl
theorem spk2 : lsync (pOne (frameOf one) 0) (lOne 9 true [one]) = (pOne (frameOf one) 9, lOne 9 false [one], 0) := by
  have h9 := len_one
  have e : pSync (pOne (frameOf one) 0) (lfile (lOne 9 true [one]).name (lOne 9 true [one]).last) = (pOne (frameOf one) 9, 0) := by
    show pSync (pOne (frameOf one) 0) [119, 48] = _
    generalize frameOf one = f at *
    simp [pOne, pSync, pChange, pfind, pspend, pset, h9]
  unfold lsync
  rw [if_pos (show (lOne 9 true [one]).waits = true from rfl), e]
  rfl
theorem spk3 : lappend (pOne (frameOf one) 9) (lOne 9 false [one]) two = (pOne (frames [one, two]) 9, lOne 18 true [one, two], 0) := by
  have h9 := len_one
  have h2 := len_two
  have hf : frames [one, two] = frameOf one ++ frameOf two := by simp [frames]
  have e : pAppend (pOne (frameOf one) 9) (lfile (lOne 9 false [one]).name (lOne 9 false [one]).last) (frameOf two) = (pOne (frames [one, two]) 9, 0) := by
    show pAppend (pOne (frameOf one) 9) [119, 48] (frameOf two) = _
    rw [hf]
    generalize frameOf one = f at *
    generalize frameOf two = g at *
    simp [pOne, pAppend, pfind, ptotal, isNm, pspend, pspendE, pput, pset]
    omega
  unfold lappend
  rw [if_neg (by rw [h2]; show ¬ (0 < 9 ∧ 100 < 9 + 9); omega)]
  unfold lput
  rw [e, if_pos rfl, h2]
  rfl
theorem spk4 : (lopen (pCrash (pOne (frames [one, two]) 9) [3]) [119] 100).2.recs = [one] := by
  have hl : (frames [one, two]).length = 18 := by
    simp only [frames, List.flatMap_cons, List.flatMap_nil, List.length_append, len_one, len_two, List.length_nil]
  have hf : Files (pCrash (pOne (frames [one, two]) 9) [3]) [119] [] [one, two] 12 := by
    refine ⟨⟨rfl, rfl⟩, ⟨by decide, by decide⟩, Nat.zero_le _, (fun i rs hi => by cases hi), .inr ?_, (fun i h1 h2 => ?_), ?_, by rw [hl]; omega⟩
    · have hk : pkeep ⟨[119, 48], frames [one, two], 9⟩ 3 = 12 := by
        unfold pkeep
        dsimp only
        rw [hl]
        rfl
      show (if [119, 48] = lfile [119] 0 then _ else _) = _
      rw [if_pos (show ([119, 48] : Bs) = lfile [119] 0 from rfl)]
      show some (⟨[119, 48], (frames [one, two]).take (pkeep ⟨[119, 48], frames [one, two], 9⟩ 3), pkeep ⟨[119, 48], frames [one, two], 9⟩ 3⟩ : PF) = _
      rw [hk]
      rfl
    · show (if [119, 48] = lfile [119] i then _ else none) = none
      rw [if_neg]
      intro e
      have h0 : lfile [119] 0 = lfile [119] i := e
      have := lfile_inj (by omega) h2 h0
      have h1 : 0 < i := h1
      omega
    · intro r hr
      simp at hr
      rcases hr with rfl | rfl <;> simp [one, two]
  obtain ⟨j, hj, hm, hi, _, _, _, hu⟩ := hf.open_ 100
  have h1 := hm 1 (by simp) (by
    show (frames [one]).length ≤ 12
    rw [frames_one, len_one]; omega)
  have hj2 : j ≠ 2 := fun e => by
    rw [e] at hu
    have : (frames ([one, two].take 2)).length = 18 := hl
    omega
  have hj3 : j ≤ 2 := hj
  obtain rfl : j = 1 := by omega
  exact hi.recs
end Go.Proofs.YthnaggmafbhdmaaDoor
