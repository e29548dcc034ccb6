/- A disk of one file, and two rows of bytes beside it: what the calls make of them. Conditions: the bytes fit. -/
import Derived.Test.YtddakbannfjfcaaAtS
import Derived.Test.YtddakbannfjfcaaApp
namespace Go.Proofs.Ytddakbannfjfcaa
open Go.RowKit Go.Maps

/-- a disk whose one file, if there is one, has these bytes, so many of them sure. -/
def pF (n : Nat) (L : Bs) (l : Nat) : PD := ⟨1048576, -1, false, if n = 0 then [] else [⟨[102], L, l⟩]⟩
theorem pF_append (n : Nat) (L d : Bs) (l : Nat) (h : n = 0 → L = [] ∧ l = 0) (hl : L.length + d.length ≤ 1048576) : (pAppend (pF n L l) [102] d).1 = pF (n + 1) (L ++ d) l := by
  unfold pF
  by_cases hn : n = 0
  · subst hn
    obtain ⟨rfl, rfl⟩ := h rfl
    simp [pAppend, pfind, ptotal, isNm, pspend, pput, pins, pset]
    simp at hl
    rw [if_neg (by omega)]
  · simp [pAppend, pfind, ptotal, isNm, pspend, pput, pset, hn]
    rw [if_neg (by omega)]
theorem pF_sync (n : Nat) (L : Bs) (l : Nat) : (pSync (pF n L l) [102]).1 = pF n L L.length := by
  unfold pF
  by_cases hn : n = 0
  · simp [pSync, pChange, pfind, hn]
  · simp [pSync, pChange, pfind, pspend, pset, hn]
theorem pF_none (L : Bs) (l : Nat) (ks : List Int) : pRead (pCrash (pF 0 L l) ks) [102] = ([], 60) := by
  simp [pF, pCrash, pcrashL, pRead, pfind]
theorem pF_some (n : Nat) (L : Bs) (l : Nat) (ks : List Int) (hn : 0 < n) (hl : l ≤ L.length) : ∃ k, l ≤ k ∧ k ≤ L.length ∧ pRead (pCrash (pF n L l) ks) [102] = (L.take k, 0) := by
  refine ⟨pkeep ⟨[102], L, l⟩ (ks.headD 0), ?_, ?_, ?_⟩
  · unfold pkeep; dsimp only; omega
  · unfold pkeep; dsimp only
    have h1 := Int.emod_lt_of_pos (ks.headD 0) (show (0 : Int) < ((L.length - l + 1 : Nat) : Int) by omega)
    have h2 := Int.emod_nonneg (ks.headD 0) (show ((L.length - l + 1 : Nat) : Int) ≠ 0 by omega)
    omega
  · rw [show pF n L l = ⟨1048576, -1, false, [⟨[102], L, l⟩]⟩ from by unfold pF; rw [if_neg (by omega)]]
    simp [pCrash, pcrashL, pcrashF, pRead, pfind]

def Two (v1 v2 : Value) : Nat → Prop := fun k => v1.ownBlock = some k ∨ v2.ownBlock = some k
structure Las (w1 wr : World) (gd : Nat) (p : PD) (v1 v2 : Value) (L1 L2 : Bs) : Prop where
  at_ : AtS w1 wr gd p (Two v1 v2)
  own1 : wr.ownsRow w1.heap.size 5 1 v1 L1.length (cb L1)
  own2 : wr.ownsRow w1.heap.size 5 1 v2 L2.length (cb L2)
  ne : ∀ k, v1.ownBlock = some k → v2.ownBlock = some k → False
theorem Las.lt {w1 wr : World} {gd : Nat} {p : PD} {v1 v2 : Value} {L1 L2 : Bs} (h : Las w1 wr gd p v1 v2 L1 L2) : ∀ k, Two v1 v2 k → k < wr.heap.size := fun k hk => by
  rcases hk with h' | h'
  · exact (own_lt h.own1 h').2
  · exact (own_lt h.own2 h').2
theorem Las.call {w1 wr w' : World} {gd : Nat} {p p' : PD} {v1 v2 : Value} {L1 L2 : Bs} (h : Las w1 wr gd p v1 v2 L1 L2) (ha : AtS w1 w' gd p' (Two v1 v2)) (hf : Fr (Loose w1 (Two v1 v2)) wr w') : Las w1 w' gd p' v1 v2 L1 L2 :=
  ⟨ha, own_fr h.own1 hf fun _ hk hc => hc.1 (.inl hk), own_fr h.own2 hf fun _ hk hc => hc.1 (.inr hk), h.ne⟩
theorem Las.grow1 {w1 wr w' : World} {gd : Nat} {p : PD} {v1 v2 v' : Value} {L1 L2 L' : Bs} (h : Las w1 wr gd p v1 v2 L1 L2) (ho : w'.ownsRow w1.heap.size 5 1 v' L'.length (cb L')) (hg : wr.grownBy w' v1.ownBlock) (hb : v'.ownBlock = v1.ownBlock ∨ v'.ownBlock = some wr.heap.size) : Las w1 w' gd p v' v2 L' L2 := by
  have hf := Fr.ofGrown hg
  refine ⟨h.at_.prot hf (fun k _ hk => ⟨.inl hk.symm, (own_lt h.own1 hk.symm).1⟩) fun k hk => ?_, ho, own_fr h.own2 hf fun k hk hc => h.ne k hc.symm hk, fun k h1 h2 => ?_⟩
  · rcases hk with h1 | h1
    · rcases hb with e | e
      · exact .inl (.inl (e ▸ h1))
      · rw [e] at h1
        injection h1 with h1
        exact .inr (by omega)
    · exact .inl (.inr h1)
  · rcases hb with e | e
    · exact h.ne k (e ▸ h1) h2
    · rw [e] at h1
      injection h1 with h1
      have := (own_lt h.own2 h2).2
      omega
theorem Las.swap {w1 wr : World} {gd : Nat} {p : PD} {v1 v2 : Value} {L1 L2 : Bs} (h : Las w1 wr gd p v1 v2 L1 L2) : Las w1 wr gd p v2 v1 L2 L1 :=
  ⟨h.at_.prot (Fr.refl NoBlk _) (fun _ _ h => h.elim) fun _ hk => .inl (hk.elim .inr .inl), h.own2, h.own1, fun k h1 h2 => h.ne k h2 h1⟩
theorem Las.grow2 {w1 wr w' : World} {gd : Nat} {p : PD} {v1 v2 v' : Value} {L1 L2 L' : Bs} (h : Las w1 wr gd p v1 v2 L1 L2) (ho : w'.ownsRow w1.heap.size 5 1 v' L'.length (cb L')) (hg : wr.grownBy w' v2.ownBlock) (hb : v'.ownBlock = v2.ownBlock ∨ v'.ownBlock = some wr.heap.size) : Las w1 w' gd p v1 v' L1 L' :=
  (h.swap.grow1 ho hg hb).swap
/-- the disk, and two empty rows made behind it. -/
theorem Las.start {w1 w2 : World} {gd : Nat} {p : PD} (h : At w1 w2 w1.heap.size gd p) :
    Las w1 ((w2.alloc (.cells #[] 5)).alloc (.cells #[] 5)) gd p (.slice (some ⟨w2.heap.size, 0, none⟩) 0 0) (.slice (some ⟨w2.heap.size + 1, 0, none⟩) 0 0) [] [] := by
  have h2 : w1.heap.size ≤ w2.heap.size := h.fr.size
  have hs : (w2.alloc (.cells #[] 5)).heap.size = w2.heap.size + 1 := by show (w2.heap.push _).size = _; rw [Array.size_push]
  have f1 : Fr NoBlk w2 (w2.alloc (.cells #[] 5)) := (Fr.refl _ _).alloc _
  have f2 : Fr NoBlk (w2.alloc (.cells #[] 5)) ((w2.alloc (.cells #[] 5)).alloc (.cells #[] 5)) := (Fr.refl _ _).alloc _
  refine ⟨h.prot (f1.trans f2) fun k hk => ?_, ?_, ?_, fun k h1 h2 => ?_⟩
  · left
    rcases hk with h | h
    · have e : w2.heap.size = k := by simpa [Value.ownBlock] using h
      omega
    · have e : w2.heap.size + 1 = k := by simpa [Value.ownBlock] using h
      omega
  · have := World.ownsRow_made (base := w1.heap.size) (e := 5) (size := 1) w2 #[] 0 h2 (by decide) rfl
    exact own_fr this f2 fun _ _ h => h
  · have := World.ownsRow_made (base := w1.heap.size) (e := 5) (size := 1) (w2.alloc (.cells #[] 5)) #[] 0 (by omega) (by decide) rfl
    rw [hs] at this
    exact this
  · simp [Value.ownBlock] at h1 h2
    omega
end Go.Proofs.Ytddakbannfjfcaa
