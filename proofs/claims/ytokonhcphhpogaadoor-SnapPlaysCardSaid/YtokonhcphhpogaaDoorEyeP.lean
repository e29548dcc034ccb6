/- Numbers read of bytes. Plain mathematics. No condition. -/
import Derived.Test.YtokonhcphhpogaaDoorPen2
namespace Go.Proofs.YtokonhcphhpogaaDoor
open Go.RowKit

/-- what the document says of the number with which bytes begin, from the k-th on: the number, how many bytes it has, the error's number. -/
def numGo : Nat → Nat → List UInt8 → Nat × Nat × Nat
  | _, _, [] => (0, 0, 30)
  | k, n, b :: t =>
    if k = 9 ∧ 1 < b.toNat then (0, 0, 31)
    else if 128 ≤ b.toNat then numGo (k + 1) (n + b.toNat % 128 * 128 ^ k) t
    else if b.toNat = 0 ∧ 0 < k then (0, 0, 31)
    else (n + b.toNat % 128 * 128 ^ k, k + 1, 0)
def rdNum (l : List UInt8) : Nat × Nat × Nat := numGo 0 0 l
theorem drop_cons (l : List UInt8) (k : Nat) (h : k < l.length) : l.drop k = l.getD k 0 :: l.drop (k + 1) := by
  rw [List.drop_eq_getElem_cons h]
  simp [List.getD_eq_getElem?_getD, h]
theorem pow128 (k : Nat) : (128 : Nat) ^ k = 2 ^ (7 * k) := by rw [Nat.pow_mul]
theorem pow_le9 {k : Nat} (h : k ≤ 9) : (128 : Nat) ^ k ≤ 128 ^ 9 := Nat.pow_le_pow_right (by omega) h
theorem or_step (n x k : Nat) (hk : k ≤ 9) (hn : n < 128 ^ k) (h9 : k = 9 → x ≤ 1) :
    bits .or .u64 (n : Int) (IntKind.u64.wrap ((x : Int) % 128 * 2 ^ (7 * k))) = ((n + x % 128 * 128 ^ k : Nat) : Int) := by
  have hp := pow_le9 hk
  have hb : x % 128 * 128 ^ k < 18446744073709551616 := by
    by_cases h : k = 9
    · subst h
      have : x % 128 ≤ 1 := by have := h9 rfl; omega
      have := Nat.mul_le_mul_right (128 ^ 9) this
      omega
    · have h8 : (128 : Nat) ^ k ≤ 128 ^ 8 := Nat.pow_le_pow_right (by omega) (by omega)
      have : x % 128 * 128 ^ k ≤ 127 * 128 ^ 8 := Nat.mul_le_mul (by omega) h8
      omega
  have hc : ((x : Int) % 128 * 2 ^ (7 * k)) = ((x % 128 * 128 ^ k : Nat) : Int) := by
    rw [pow128]; push_cast; rfl
  rw [hc]
  have hw : IntKind.u64.wrap ((x % 128 * 128 ^ k : Nat) : Int) = ((x % 128 * 128 ^ k : Nat) : Int) := by
    generalize x % 128 * 128 ^ k = y at *
    simp only [IntKind.wrap, IntKind.bits, IntKind.signed]
    simp
    omega
  rw [hw, u64_or_nat _ _ (by omega) hb, Nat.or_comm, nat_join (7 * k) _ _ (by rw [pow128]; exact Nat.mul_mod_left _ _) (by rw [← pow128]; exact hn), Nat.add_comm]
theorem or_step9 (n x : Nat) (hn : n < 128 ^ 9) (hx : x ≤ 1) : bits .or .u64 (n : Int) ((x : Int) % 128 * 9223372036854775808) = ((n + x % 128 * 128 ^ 9 : Nat) : Int) := by
  have h := or_step n x 9 (by omega) hn (fun _ => hx)
  rw [show ((2 : Int) ^ (7 * 9)) = 9223372036854775808 from by decide] at h
  have hw : IntKind.u64.wrap ((x : Int) % 128 * 9223372036854775808) = (x : Int) % 128 * 9223372036854775808 := by
    simp only [IntKind.wrap, IntKind.bits, IntKind.signed]
    simp
    omega
  rwa [hw] at h
theorem numGo_form {k n : Nat} {x : UInt8} {t : List UInt8} (h : k = 9 ∧ 1 < x.toNat) : numGo k n (x :: t) = (0, 0, 31) := by rw [numGo, if_pos h]
theorem numGo_on {k n : Nat} {x : UInt8} {t : List UInt8} (h : ¬ k = 9) (hx : 128 ≤ x.toNat) : numGo k n (x :: t) = numGo (k + 1) (n + x.toNat % 128 * 128 ^ k) t := by
  rw [numGo, if_neg (fun e => h e.1), if_pos hx]
theorem numGo_nought {k n : Nat} {x : UInt8} {t : List UInt8} (h : ¬ (k = 9 ∧ 1 < x.toNat)) (h0 : x.toNat = 0) (hk : 0 < k) : numGo k n (x :: t) = (0, 0, 31) := by
  rw [numGo, if_neg h, if_neg (by omega), if_pos ⟨h0, hk⟩]
theorem numGo_end {k n : Nat} {x : UInt8} {t : List UInt8} (h : ¬ (k = 9 ∧ 1 < x.toNat)) (hx : ¬ 128 ≤ x.toNat) (h0 : ¬ (x.toNat = 0 ∧ 0 < k)) : numGo k n (x :: t) = (n + x.toNat % 128 * 128 ^ k, k + 1, 0) := by
  rw [numGo, if_neg h, if_neg hx, if_neg h0]
theorem numGo_size (t : List UInt8) : ∀ k n, (numGo k n t).2.1 ≤ k + t.length := by
  induction t with
  | nil => intro k n; simp [numGo]
  | cons b t ih =>
    intro k n
    rw [numGo]
    split
    · exact Nat.zero_le _
    · split
      · have := ih (k + 1) (n + b.toNat % 128 * 128 ^ k)
        simp only [List.length_cons]
        omega
      · split
        · exact Nat.zero_le _
        · simp only [List.length_cons]; omega
theorem rdNum_size (l : List UInt8) : (rdNum l).2.1 ≤ l.length := by have := numGo_size l 0 0; unfold rdNum; omega
theorem numGo_lt (t : List UInt8) : ∀ k n, k ≤ 9 → n < 128 ^ k → (numGo k n t).1 < 2 ^ 64 := by
  induction t with
  | nil => intro k n _ _; simp [numGo]
  | cons b t ih =>
    intro k n hk hn
    rw [numGo]
    have hb := b.toNat_lt
    split
    · simp
    · rename_i h9
      split
      · have hk8 : k + 1 ≤ 9 := by
          by_cases h : k = 9
          · subst h; omega
          · omega
        refine ih _ _ hk8 ?_
        rw [Nat.pow_succ]
        have h2 : b.toNat % 128 * 128 ^ k ≤ 127 * 128 ^ k := Nat.mul_le_mul_right _ (by omega)
        omega
      · split
        · simp
        · simp only
          by_cases h : k = 9
          · subst h
            have h2 : b.toNat % 128 * 128 ^ 9 ≤ 1 * 128 ^ 9 := Nat.mul_le_mul_right _ (by omega)
            omega
          · have h8 : (128 : Nat) ^ k ≤ 128 ^ 8 := Nat.pow_le_pow_right (by omega) (by omega)
            have h2 : b.toNat % 128 * 128 ^ k ≤ 127 * 128 ^ 8 := Nat.mul_le_mul (by omega) h8
            omega
theorem rdNum_lt (l : List UInt8) : (rdNum l).1 < 2 ^ 64 := numGo_lt l 0 0 (by omega) (by decide)
theorem toNat_small {m : Nat} (h : m < 256) : (UInt8.ofNat m).toNat = m := by rw [UInt8.toNat_ofNat']; omega
theorem numGo_num (m : Nat) : ∀ (k acc : Nat) (rest : List UInt8), k ≤ 9 → (0 < k → 0 < m) → acc + m * 128 ^ k < 2 ^ 64 →
    numGo k acc (num m ++ rest) = (acc + m * 128 ^ k, k + (num m).length, 0) := by
  induction m using Nat.strongRecOn with
  | _ m ih =>
    intro k acc rest hk h0 hb
    have h9 : k = 9 → m ≤ 1 := by rintro rfl; omega
    by_cases h : m < 128
    · rw [num_lt h, List.singleton_append, numGo_end (by rw [toNat_small (by omega)]; rintro ⟨e, h1⟩; have := h9 e; omega) (by rw [toNat_small (by omega)]; omega) (by rw [toNat_small (by omega)]; rintro ⟨e, h1⟩; have := h0 h1; omega),
        toNat_small (by omega), Nat.mod_eq_of_lt h]
      rfl
    · have hk9 : ¬ k = 9 := fun e => by have := h9 e; omega
      rw [num_ge h, List.cons_append, numGo_on hk9 (by rw [toNat_small (by omega)]; omega), toNat_small (by omega)]
      have hs : acc + (m % 128 + 128) % 128 * 128 ^ k + m / 128 * 128 ^ (k + 1) = acc + m * 128 ^ k := by
        rw [Nat.pow_succ, show (m % 128 + 128) % 128 = m % 128 by omega]
        have : m * 128 ^ k = (m % 128 + 128 * (m / 128)) * 128 ^ k := by rw [Nat.mod_add_div]
        rw [this, Nat.add_mul]
        have : 128 * (m / 128) * 128 ^ k = m / 128 * (128 ^ k * 128) := by
          rw [Nat.mul_comm 128, Nat.mul_assoc, Nat.mul_comm 128]
        omega
      rw [ih (m / 128) (by omega) (k + 1) _ rest (by omega) (fun _ => by omega) (by rw [hs]; exact hb), hs, List.length_cons]
      rw [show k + 1 + (num (m / 128)).length = k + ((num (m / 128)).length + 1) by omega]
theorem rdNum_app (m : Nat) (rest : List UInt8) (hm : m < 2 ^ 64) : rdNum (num m ++ rest) = (m, (num m).length, 0) := by
  unfold rdNum
  rw [numGo_num m 0 0 rest (by omega) (fun h => absurd h (by omega)) (by omega)]
  simp
theorem rdNum_num (m : Nat) (hm : m < 2 ^ 64) : rdNum (num m) = (m, (num m).length, 0) := by
  have := rdNum_app m [] hm
  rwa [List.append_nil] at this
theorem numGo_canon (l : List UInt8) : ∀ k acc n, k ≤ 9 → numGo k acc l = (n, k + l.length, 0) → ∃ m, l = num m ∧ n = acc + m * 128 ^ k ∧ (0 < k → 0 < m) := by
  induction l with
  | nil => intro k acc n _ h; cases h
  | cons b t ih =>
    intro k acc n hk h
    have hb : b.toNat < 256 := b.toNat_lt
    by_cases h9 : k = 9 ∧ 1 < b.toNat
    · rw [numGo_form h9] at h
      injection h with _ h
      injection h with _ h
      cases h
    by_cases h1 : 128 ≤ b.toNat
    · rw [numGo_on (by omega) h1] at h
      rw [List.length_cons, show k + (t.length + 1) = k + 1 + t.length by omega] at h
      obtain ⟨m, rfl, hn, hm⟩ := ih (k + 1) _ n (by omega) h
      refine ⟨m * 128 + b.toNat % 128, ?_, ?_, fun _ => by have := hm (by omega); omega⟩
      · rw [num_ge (n := m * 128 + b.toNat % 128) (by have := hm (by omega); omega), show (m * 128 + b.toNat % 128) / 128 = m by omega]
        congr 1
        apply UInt8.toNat_inj.1
        rw [UInt8.toNat_ofNat']
        omega
      · rw [hn, Nat.pow_succ, Nat.add_mul, Nat.mul_comm (128 ^ k) 128, ← Nat.mul_assoc]
        omega
    · by_cases h0 : b.toNat = 0 ∧ 0 < k
      · rw [numGo_nought h9 h0.1 h0.2] at h
        injection h with _ h
        injection h with _ h
        cases h
      · rw [numGo_end h9 h1 h0] at h
        injection h with ha h
        injection h with hs _
        rw [List.length_cons] at hs
        obtain rfl : t = [] := List.length_eq_zero_iff.1 (by omega)
        refine ⟨b.toNat, ?_, ?_, fun h => by omega⟩
        · rw [num_lt (by omega)]
          congr 1
          apply UInt8.toNat_inj.1
          rw [UInt8.toNat_ofNat']
          omega
        · rw [← ha, Nat.mod_eq_of_lt (by omega)]
theorem rdNum_canon {l : List UInt8} {n : Nat} (h : rdNum l = (n, l.length, 0)) : l = num n := by
  obtain ⟨m, h1, h2, _⟩ := numGo_canon l 0 0 n (by omega) (by rw [Nat.zero_add]; exact h)
  rw [h1]
  congr 1
  omega
end Go.Proofs.YtokonhcphhpogaaDoor
