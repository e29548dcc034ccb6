/- Plain mathematics of reading what was written: a number's bytes are read as the number, what is cut off is short, and how many bytes there are. No condition but that numbers have 64 bits. -/
import Derived.Test.YtdpjmkgjjhcgeaaDoorNum
import Derived.Test.YtdpjmkgjjhcgeaaDoorEye3
namespace Go.Proofs.YtdpjmkgjjhcgeaaDoor

theorem toNat_small {m : Nat} (h : m < 256) : (UInt8.ofNat m).toNat = m := by rw [UInt8.toNat_ofNat']; omega

theorem numGo_num (m : Nat) : ∀ (k acc : Nat) (rest : List UInt8), k ≤ 9 → (0 < k → 0 < m) → acc + m * 128 ^ k < 2 ^ 64 →
    numGo k acc (num m ++ rest) = (acc + m * 128 ^ k, k + (num m).length, 0) := by
  induction m using Nat.strongRecOn with
  | _ m ih =>
    intro k acc rest hk h0 hb
    have h9 : k = 9 → m ≤ 1 := by rintro rfl; omega
    by_cases h : m < 128
    · rw [num_lt h, List.singleton_append, numGo_end (by rw [toNat_small (by omega)]; rintro ⟨e, h1⟩; have := h9 e; omega) (by rw [toNat_small (by omega)]; omega) (by rw [toNat_small (by omega)]; rintro ⟨e, h1⟩; have := h0 h1; omega),
        toNat_small (by omega), Nat.mod_eq_of_lt h]
      rfl
    · have hk9 : ¬ k = 9 := fun e => by have := h9 e; omega
      rw [num_ge h, List.cons_append, numGo_on hk9 (by rw [toNat_small (by omega)]; omega), toNat_small (by omega)]
      have hs : acc + (m % 128 + 128) % 128 * 128 ^ k + m / 128 * 128 ^ (k + 1) = acc + m * 128 ^ k := by
        rw [Nat.pow_succ, show (m % 128 + 128) % 128 = m % 128 by omega]
        have : m * 128 ^ k = (m % 128 + 128 * (m / 128)) * 128 ^ k := by rw [Nat.mod_add_div]
        rw [this, Nat.add_mul]
        have : 128 * (m / 128) * 128 ^ k = m / 128 * (128 ^ k * 128) := by
          rw [Nat.mul_comm 128, Nat.mul_assoc, Nat.mul_comm 128]
        omega
      rw [ih (m / 128) (by omega) (k + 1) _ rest (by omega) (fun _ => by omega) (by rw [hs]; exact hb), hs, List.length_cons]
      rw [show k + 1 + (num (m / 128)).length = k + ((num (m / 128)).length + 1) by omega]
theorem rdNum_app (m : Nat) (rest : List UInt8) (hm : m < 2 ^ 64) : rdNum (num m ++ rest) = (m, (num m).length, 0) := by
  unfold rdNum
  rw [numGo_num m 0 0 rest (by omega) (fun h => absurd h (by omega)) (by omega)]
  simp
theorem rdNum_num (m : Nat) (hm : m < 2 ^ 64) : rdNum (num m) = (m, (num m).length, 0) := by
  have := rdNum_app m [] hm
  rwa [List.append_nil] at this

theorem numGo_cut (m : Nat) : ∀ (k acc t : Nat), k ≤ 9 → acc + m * 128 ^ k < 2 ^ 64 → t < (num m).length → numGo k acc ((num m).take t) = (0, 0, 30) := by
  induction m using Nat.strongRecOn with
  | _ m ih =>
    intro k acc t hk hb ht
    have h9 : k = 9 → m ≤ 1 := by rintro rfl; omega
    by_cases h : m < 128
    · rw [num_lt h] at ht ⊢
      have : t = 0 := by simpa using ht
      subst this
      rfl
    · have hk9 : ¬ k = 9 := fun e => by have := h9 e; omega
      rw [num_ge h] at ht ⊢
      rcases t with _ | t
      · rfl
      · rw [List.take_succ_cons, numGo_on hk9 (by rw [toNat_small (by omega)]; omega), toNat_small (by omega)]
        have hs : acc + (m % 128 + 128) % 128 * 128 ^ k + m / 128 * 128 ^ (k + 1) = acc + m * 128 ^ k := by
          rw [Nat.pow_succ, show (m % 128 + 128) % 128 = m % 128 by omega]
          have : m * 128 ^ k = (m % 128 + 128 * (m / 128)) * 128 ^ k := by rw [Nat.mod_add_div]
          rw [this, Nat.add_mul]
          have : 128 * (m / 128) * 128 ^ k = m / 128 * (128 ^ k * 128) := by
            rw [Nat.mul_comm 128, Nat.mul_assoc, Nat.mul_comm 128]
          omega
        exact ih (m / 128) (by omega) (k + 1) _ t (by omega) (by rw [hs]; exact hb) (by simpa using ht)
theorem rdNum_cut (m t : Nat) (hm : m < 2 ^ 64) (ht : t < (num m).length) : rdNum ((num m).take t) = (0, 0, 30) :=
  numGo_cut m 0 0 t (by omega) (by omega) ht

theorem num_len_step (n : Nat) : (num n).length = 1 + (if n / 128 = 0 then 0 else (num (n / 128)).length) := by
  by_cases h : n < 128
  · rw [num_lt h, if_pos (by omega)]; rfl
  · rw [num_ge h, if_neg (by omega), List.length_cons, Nat.add_comm]

/-- an int's lowest bits. -/
theorem i64_low (k : Int) (b : Nat) (hb : b < 63) : ∃ q : Nat, q < 2 ^ b ∧ bits .and .i64 k ((2 ^ b - 1 : Nat) : Int) = (q : Int) := by
  have h2 : 2 ^ b ≤ 2 ^ 62 := Nat.pow_le_pow_right (by omega) (by omega)
  have h1 : 0 < 2 ^ b := Nat.two_pow_pos b
  refine ⟨(BitVec.ofInt 64 k &&& BitVec.ofInt 64 ((2 ^ b - 1 : Nat) : Int)).toNat, ?_, ?_⟩
  · rw [BitVec.toNat_and, BitVec.ofInt_natCast, BitVec.toNat_ofNat]
    have := Nat.and_le_right (n := (BitVec.ofInt 64 k).toNat) (m := (2 ^ b - 1) % 2 ^ 64)
    have := Nat.mod_le (2 ^ b - 1) (2 ^ 64)
    omega
  · show IntKind.i64.wrap (((BitVec.ofInt 64 k &&& BitVec.ofInt 64 ((2 ^ b - 1 : Nat) : Int)).toNat : Nat) : Int) = _
    have hq : (BitVec.ofInt 64 k &&& BitVec.ofInt 64 ((2 ^ b - 1 : Nat) : Int)).toNat ≤ 2 ^ 62 := by
      rw [BitVec.toNat_and, BitVec.ofInt_natCast, BitVec.toNat_ofNat]
      have := Nat.and_le_right (n := (BitVec.ofInt 64 k).toNat) (m := (2 ^ b - 1) % 2 ^ 64)
      have := Nat.mod_le (2 ^ b - 1) (2 ^ 64)
      omega
    generalize (BitVec.ofInt 64 k &&& BitVec.ofInt 64 ((2 ^ b - 1 : Nat) : Int)).toNat = q at *
    exact IntWalk.i64_in _ (by omega)
end Go.Proofs.YtdpjmkgjjhcgeaaDoor
