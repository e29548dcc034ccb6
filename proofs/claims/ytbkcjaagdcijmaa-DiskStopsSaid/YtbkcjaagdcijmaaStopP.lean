/- What a call on a disk does to the power that is left, and a disk of two files whose second one is renamed over the first. Plain mathematics. Conditions: lengths. -/
import Derived.Test.YtbkcjaagdcijmaaPure2
namespace Go.Proofs.Ytbkcjaagdcijmaa

/-- how the power that is left turns by a call that answers e. -/
def Stp (p q : PD) (e : Int) : Prop :=
  (e = 0 ∧ p.down = false ∧ 1 ≤ p.left ∧ q.left = p.left - 1 ∧ q.down = false) ∨ (e = 3 ∧ q.left = p.left ∧ q.down = true) ∨ (e ≠ 0 ∧ e ≠ 3 ∧ p.down = false ∧ q.left = p.left ∧ q.down = false)
theorem spend_stp (p r : PD) (h : 0 ≤ p.left) (hd : p.down = false) (hl : r.left = p.left) (hr : r.down = p.down) : Stp p (pspend r) (pspendE r) := by
  unfold pspend pspendE Stp
  by_cases h0 : p.left = 0
  · rw [if_pos (by omega), if_pos (by omega)]
    exact .inr (.inl ⟨rfl, hl, rfl⟩)
  · rw [if_neg (by omega), if_neg (by omega), if_pos (by omega)]
    exact .inl ⟨rfl, hd, by omega, by show r.left - 1 = _; omega, by show r.down = _; rw [hr, hd]⟩
theorem append_stp (p : PD) (h : 0 ≤ p.left) (k d : Bs) : Stp p (pAppend p k d).1 (pAppend p k d).2 := by
  unfold pAppend
  cases hd : p.down with
  | true => exact .inr (.inl ⟨rfl, rfl, hd⟩)
  | false =>
    rw [if_neg (by simp)]
    split
    · exact .inr (.inr ⟨by simp, by simp, hd, rfl, hd⟩)
    split
    · exact .inr (.inr ⟨by simp, by simp, hd, rfl, hd⟩)
    · exact spend_stp p { p with files := pput p.files k d, down := false } h hd rfl hd.symm
theorem change_stp (p : PD) (h : 0 ≤ p.left) (k : Bs) (r : PF → Bool) (a : PF → List PF → List PF) : Stp p (pChange p k r a).1 (pChange p k r a).2 := by
  unfold pChange
  cases hd : p.down with
  | true => exact .inr (.inl ⟨rfl, rfl, hd⟩)
  | false =>
    rw [if_neg (by simp)]
    cases hf : pfind p.files k with
    | none => exact .inr (.inr ⟨by simp, by simp, hd, rfl, hd⟩)
    | some f =>
      dsimp only
      split
      · exact .inr (.inr ⟨by simp, by simp, hd, rfl, hd⟩)
      split
      · rename_i h0
        refine .inr (.inl ⟨rfl, ?_, ?_⟩)
        · unfold pspend; rw [if_pos h0]
        · unfold pspend; rw [if_pos h0]
      · rename_i h0
        refine .inl ⟨rfl, hd, by omega, ?_, ?_⟩
        · show (pspend p).left = _
          unfold pspend; rw [if_neg h0, if_pos (by omega)]
        · show (pspend p).down = _
          unfold pspend; rw [if_neg h0, if_pos (by omega)]; exact hd
theorem read_down (q : PD) (k : Bs) : ((pRead q k).2 = 3 ∧ q.down = true) ∨ ((pRead q k).2 ≠ 3 ∧ q.down = false) := by
  unfold pRead
  cases hd : q.down with
  | true => exact .inl ⟨rfl, rfl⟩
  | false =>
    rw [if_neg (by simp)]
    refine .inr ⟨?_, rfl⟩
    cases pfind q.files k with
    | none => show (60 : Int) ≠ 3; decide
    | some f => show (0 : Int) ≠ 3; decide
/-- a disk of a file x, whose bytes last. -/
def pX (old : Bs) (l : Int) : PD := ⟨1048576, l, false, [⟨[120], old, old.length⟩]⟩
theorem pX_start (old : Bs) (h : old.length ≤ 2000) : (pSync (pAppend (pNew 1048576) [120] old).1 [120]).1 = pX old (-1) := by
  have e : (pAppend (pNew 1048576) [120] old).1 = ⟨1048576, -1, false, [⟨[120], old, 0⟩]⟩ := by
    simp [pNew, pAppend, pfind, ptotal, isNm, pspend, pput, pins, pset]
    rw [if_neg (by omega)]
  rw [e]
  simp [pX, pSync, pChange, pfind, pspend, pset]
/-- x, and y beside it. -/
def pXY (old next : Bs) (l : Int) (dn : Bool) (s : Nat) : PD := ⟨1048576, l, dn, [⟨[120], old, old.length⟩, ⟨[121], next, s⟩]⟩
theorem pX_append0 (old next : Bs) (h : old.length ≤ 2000) (h2 : next.length ≤ 2000) : pAppend (pX old 0) [121] next = (pXY old next 0 true 0, 3) := by
  have hb : Op.bytesLess ([121] : Bs) [120] = false := by decide
  simp [pX, pXY, pAppend, pfind, ptotal, isNm, pspend, pspendE, pput, pins, pset, hb]
  omega
theorem pX_append (old next : Bs) (l : Int) (hl : 1 ≤ l) (h : old.length ≤ 2000) (h2 : next.length ≤ 2000) : pAppend (pX old l) [121] next = (pXY old next (l - 1) false 0, 0) := by
  have hb : Op.bytesLess ([121] : Bs) [120] = false := by decide
  have h0 : ¬ l = 0 := by omega
  have h1 : 0 < l := by omega
  simp [pX, pXY, pAppend, pfind, ptotal, isNm, pspend, pspendE, pput, pins, pset, hb, h0, h1]
  omega
theorem pXY_sync0 (old next : Bs) : pSync (pXY old next 0 false 0) [121] = (pXY old next 0 true 0, 3) := by
  simp [pXY, pSync, pChange, pfind, pspend]
theorem pXY_sync (old next : Bs) (l : Int) (hl : 1 ≤ l) : pSync (pXY old next l false 0) [121] = (pXY old next (l - 1) false next.length, 0) := by
  have h0 : ¬ l = 0 := by omega
  have h1 : 0 < l := by omega
  simp [pXY, pSync, pChange, pfind, pspend, pset, h0, h1]
theorem pXY_rename0 (old next : Bs) (s : Nat) : pRename (pXY old next 0 false s) [121] [120] = (pXY old next 0 true s, 3) := by
  simp [pXY, pRename, pChange, pfind, pspend, isNm]
theorem pXY_rename (old next : Bs) (l : Int) (hl : 1 ≤ l) : pRename (pXY old next l false next.length) [121] [120] = (pX next (l - 1), 0) := by
  have h0 : ¬ l = 0 := by omega
  have h1 : 0 < l := by omega
  simp [pX, pXY, pRename, pChange, pfind, pspend, isNm, pins, pdel, h0, h1]
theorem take_keep (d : Bs) (k : Int) : d.take (pkeep ⟨[120], d, d.length⟩ k) = d := by
  apply List.take_of_length_le
  unfold pkeep
  dsimp only
  omega
theorem pXY_read (old next : Bs) (l : Int) (dn : Bool) (s : Nat) (ks : List Int) : pRead (pCrash (pXY old next l dn s) ks) [120] = (old, 0) := by
  simp [pXY, pCrash, pcrashL, pcrashF, pRead, pfind, take_keep]
theorem pX_read (d : Bs) (l : Int) (ks : List Int) : pRead (pCrash (pX d l) ks) [120] = (d, 0) := by
  simp [pX, pCrash, pcrashL, pcrashF, pRead, pfind, take_keep]
end Go.Proofs.Ytbkcjaagdcijmaa
