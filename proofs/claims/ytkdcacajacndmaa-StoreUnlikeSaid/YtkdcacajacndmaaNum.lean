/- Plain mathematics of the numbers' bytes: unlike numbers have unlike bytes, greater ones no fewer. No condition. -/
import Derived.Test.YtkdcacajacndmaaPen2
namespace Go.Proofs.Ytkdcacajacndmaa

theorem num_ne (n : Nat) : num n ≠ [] := by
  by_cases h : n < 128
  · rw [num_lt h]; simp
  · rw [num_ge h]; simp
theorem ofNat_inj {a b : Nat} (ha : a < 256) (hb : b < 256) (h : UInt8.ofNat a = UInt8.ofNat b) : a = b := by
  have := congrArg UInt8.toNat h
  rw [UInt8.toNat_ofNat', UInt8.toNat_ofNat'] at this
  omega
theorem num_inj (a : Nat) : ∀ b, num a = num b → a = b := by
  induction a using Nat.strongRecOn with
  | _ a ih =>
    intro b h
    by_cases ha : a < 128 <;> by_cases hb : b < 128
    · rw [num_lt ha, num_lt hb] at h
      exact ofNat_inj (by omega) (by omega) (by simpa using h)
    · rw [num_lt ha, num_ge hb] at h
      injection h with _ h
      exact absurd h.symm (num_ne _)
    · rw [num_ge ha, num_lt hb] at h
      injection h with _ h
      exact absurd h (num_ne _)
    · rw [num_ge ha, num_ge hb] at h
      injection h with h1 h2
      have := ih (a / 128) (by omega) _ h2
      have := ofNat_inj (by omega) (by omega) h1
      omega
theorem num_mono (a : Nat) : ∀ b, a ≤ b → (num a).length ≤ (num b).length := by
  induction a using Nat.strongRecOn with
  | _ a ih =>
    intro b h
    by_cases ha : a < 128
    · rw [num_lt ha]
      have := List.length_pos_iff.2 (num_ne b)
      simp; omega
    · rw [num_ge ha, num_ge (show ¬ b < 128 by omega)]
      have := ih (a / 128) (by omega) (b / 128) (by omega)
      simpa using this

open Go.RowKit in
theorem Pen.keep {C : Nat → Prop} {w w' : World} {base g : Nat} {v : Value} {l : List UInt8} (h : Pen w base g v l) (hf : Fr C w w') (hg : ¬ C g) (hv : ∀ k, v.ownBlock = some k → ¬ C k) : Pen w' base g v l :=
  ⟨h.bk.fr hf hg, own_fr h.own hf hv⟩
end Go.Proofs.Ytkdcacajacndmaa
