/- Two crashes of a disk, and an int's lowest bits. Plain mathematics. No condition but lengths. -/
import Derived.Test.YtnmemdhajjibgaaPure2
import Derived.Test.YtnmemdhajjibgaaAtS
import Derived.Test.YtnmemdhajjibgaaGreat3
namespace Go.Proofs.Ytnmemdhajjibgaa
open Go.RowKit

theorem keep_le {f : PF} (h : f.last ≤ f.data.length) (k : Int) : f.last ≤ pkeep f k ∧ pkeep f k ≤ f.data.length := by
  unfold pkeep
  have h1 := Int.emod_lt_of_pos k (show (0 : Int) < ((f.data.length - f.last + 1 : Nat) : Int) by omega)
  have h2 := Int.emod_nonneg k (show ((f.data.length - f.last + 1 : Nat) : Int) ≠ 0 by omega)
  omega
theorem crashF_twice {f : PF} (h : f.last ≤ f.data.length) (a b : Int) : pcrashF (pcrashF f a) b = pcrashF f a := by
  have h1 := (keep_le h a).2
  have h2 : (f.data.take (pkeep f a)).length = pkeep f a := by rw [List.length_take]; omega
  have h3 : pkeep (pcrashF f a) b = pkeep f a := by
    have h4 := keep_le (f := pcrashF f a) (by show pkeep f a ≤ (f.data.take _).length; omega) b
    have h5 : (pcrashF f a).last = pkeep f a := rfl
    have h6 : (pcrashF f a).data.length = pkeep f a := h2
    omega
  unfold pcrashF at h3 ⊢
  rw [h3]
  simp only [List.take_take, Nat.min_self]
theorem crashL_twice (L : List PF) (h : ∀ f ∈ L, f.last ≤ f.data.length) (a b : List Int) : pcrashL (pcrashL L a) b = pcrashL L a := by
  induction L generalizing a b with
  | nil => rfl
  | cons f t ih =>
    show pcrashF (pcrashF f _) _ :: pcrashL (pcrashL t _) _ = _
    rw [crashF_twice (h f (List.mem_cons_self ..)), ih fun g hg => h g (List.mem_cons_of_mem _ hg)]
    rfl
theorem crash_twice (p : PD) (h : ∀ f ∈ p.files, f.last ≤ f.data.length) (a b : List Int) : pCrash (pCrash p a) b = pCrash p a := by
  show (⟨p.room, -1, false, pcrashL (pcrashL p.files a) b⟩ : PD) = _
  rw [crashL_twice _ h]
  rfl
theorem find_named {L : List PF} {k : Bs} (h : k ∈ L.map (·.name)) : ∃ f, pfind L k = some f := by
  induction L with
  | nil => cases h
  | cons f t ih =>
    by_cases e : f.name = k
    · exact ⟨f, by simp [pfind, e]⟩
    · rcases List.mem_cons.1 h with h | h
      · exact absurd h.symm e
      · obtain ⟨g, hg⟩ := ih h
        exact ⟨g, by simp [pfind, e, hg]⟩
theorem crash_read (p : PD) (a : List Int) (k : Bs) (h : k ∈ (pCrash p a).files.map (·.name)) : ∃ d, pRead (pCrash p a) k = (d, 0) := by
  obtain ⟨f, hf⟩ := find_named h
  refine ⟨f.data, ?_⟩
  unfold pRead
  rw [hf]
  simp [pCrash]
/-- an int's lowest bits. -/
theorem low_bits (k : Int) (m : Nat) (hm : m ≤ 65535) : ∃ q : Nat, bits .and .i64 k (m : Int) = (q : Int) ∧ q ≤ m := by
  have e : (BitVec.ofInt 64 (m : Int)).toNat = m := by rw [BitVec.ofInt_natCast, BitVec.toNat_ofNat]; omega
  have hq : (BitVec.ofInt 64 k &&& BitVec.ofInt 64 (m : Int)).toNat ≤ m := by
    rw [BitVec.toNat_and]
    have := Nat.and_le_right (n := (BitVec.ofInt 64 k).toNat) (m := (BitVec.ofInt 64 (m : Int)).toNat)
    omega
  refine ⟨(BitVec.ofInt 64 k &&& BitVec.ofInt 64 (m : Int)).toNat, ?_, hq⟩
  show IntKind.i64.wrap (((BitVec.ofInt 64 k &&& BitVec.ofInt 64 (m : Int)).toNat : Nat) : Int) = _
  generalize (BitVec.ofInt 64 k &&& BitVec.ofInt 64 (m : Int)).toNat = q at *
  exact IntWalk.i64_in _ (by omega)
theorem OpIn.nofr {w w' : World} {x : Opn} (h : OpIn w x) (hf : Fr NoBlk w w') : OpIn w' x :=
  ⟨⟨⟨h.1.1.1.nofr hf, h.1.1.2⟩, h.1.2⟩, ⟨⟨h.2.1.1.1.nofr hf, h.2.1.1.2⟩, h.2.1.2⟩, h.2.2⟩
def NoS : Nat → Prop := fun _ => False
end Go.Proofs.Ytnmemdhajjibgaa
