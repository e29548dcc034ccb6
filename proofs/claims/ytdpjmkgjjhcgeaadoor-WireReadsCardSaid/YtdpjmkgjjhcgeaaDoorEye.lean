/- The contracts of the eye: number, Num, Text, Byte, End read just what the document says of the bytes that are left, and move the eye on or leave it. Conditions: the bytes' rows are kept, lengths are short. -/
import Derived.Test.YtdpjmkgjjhcgeaaDoorPen2
namespace Go.Proofs.YtdpjmkgjjhcgeaaDoor
open Go.RowKit

/-- what the document says of the number with which bytes begin, from the k-th on: the number, how many bytes it has, the error's number. -/
def numGo : Nat → Nat → List UInt8 → Nat × Nat × Nat
  | _, _, [] => (0, 0, 30)
  | k, n, b :: t =>
    if k = 9 ∧ 1 < b.toNat then (0, 0, 31)
    else if 128 ≤ b.toNat then numGo (k + 1) (n + b.toNat % 128 * 128 ^ k) t
    else if b.toNat = 0 ∧ 0 < k then (0, 0, 31)
    else (n + b.toNat % 128 * 128 ^ k, k + 1, 0)
def rdNum (l : List UInt8) : Nat × Nat × Nat := numGo 0 0 l

theorem drop_cons (l : List UInt8) (k : Nat) (h : k < l.length) : l.drop k = l.getD k 0 :: l.drop (k + 1) := by
  rw [List.drop_eq_getElem_cons h]
  simp [List.getD_eq_getElem?_getD, h]

theorem pow128 (k : Nat) : (128 : Nat) ^ k = 2 ^ (7 * k) := by rw [Nat.pow_mul]
theorem pow_le9 {k : Nat} (h : k ≤ 9) : (128 : Nat) ^ k ≤ 128 ^ 9 := Nat.pow_le_pow_right (by omega) h

theorem or_step (n x k : Nat) (hk : k ≤ 9) (hn : n < 128 ^ k) (h9 : k = 9 → x ≤ 1) :
    bits .or .u64 (n : Int) (IntKind.u64.wrap ((x : Int) % 128 * 2 ^ (7 * k))) = ((n + x % 128 * 128 ^ k : Nat) : Int) := by
  have hp := pow_le9 hk
  have hb : x % 128 * 128 ^ k < 18446744073709551616 := by
    by_cases h : k = 9
    · subst h
      have : x % 128 ≤ 1 := by have := h9 rfl; omega
      have := Nat.mul_le_mul_right (128 ^ 9) this
      omega
    · have h8 : (128 : Nat) ^ k ≤ 128 ^ 8 := Nat.pow_le_pow_right (by omega) (by omega)
      have : x % 128 * 128 ^ k ≤ 127 * 128 ^ 8 := Nat.mul_le_mul (by omega) h8
      omega
  have hc : ((x : Int) % 128 * 2 ^ (7 * k)) = ((x % 128 * 128 ^ k : Nat) : Int) := by
    rw [pow128]; push_cast; rfl
  rw [hc]
  have hw : IntKind.u64.wrap ((x % 128 * 128 ^ k : Nat) : Int) = ((x % 128 * 128 ^ k : Nat) : Int) := by
    generalize x % 128 * 128 ^ k = y at *
    simp only [IntKind.wrap, IntKind.bits, IntKind.signed]
    simp
    omega
  rw [hw, u64_or_nat _ _ (by omega) hb, Nat.or_comm, nat_join (7 * k) _ _ (by rw [pow128]; exact Nat.mul_mod_left _ _) (by rw [← pow128]; exact hn), Nat.add_comm]

theorem or_step9 (n x : Nat) (hn : n < 128 ^ 9) (hx : x ≤ 1) : bits .or .u64 (n : Int) ((x : Int) % 128 * 9223372036854775808) = ((n + x % 128 * 128 ^ 9 : Nat) : Int) := by
  have h := or_step n x 9 (by omega) hn (fun _ => hx)
  rw [show ((2 : Int) ^ (7 * 9)) = 9223372036854775808 from by decide] at h
  have hw : IntKind.u64.wrap ((x : Int) % 128 * 9223372036854775808) = (x : Int) % 128 * 9223372036854775808 := by
    simp only [IntKind.wrap, IntKind.bits, IntKind.signed]
    simp
    omega
  rwa [hw] at h

theorem numGo_form {k n : Nat} {x : UInt8} {t : List UInt8} (h : k = 9 ∧ 1 < x.toNat) : numGo k n (x :: t) = (0, 0, 31) := by rw [numGo, if_pos h]
theorem numGo_on {k n : Nat} {x : UInt8} {t : List UInt8} (h : ¬ k = 9) (hx : 128 ≤ x.toNat) : numGo k n (x :: t) = numGo (k + 1) (n + x.toNat % 128 * 128 ^ k) t := by
  rw [numGo, if_neg (fun e => h e.1), if_pos hx]
theorem numGo_nought {k n : Nat} {x : UInt8} {t : List UInt8} (h : ¬ (k = 9 ∧ 1 < x.toNat)) (h0 : x.toNat = 0) (hk : 0 < k) : numGo k n (x :: t) = (0, 0, 31) := by
  rw [numGo, if_neg h, if_neg (by omega), if_pos ⟨h0, hk⟩]
theorem numGo_end {k n : Nat} {x : UInt8} {t : List UInt8} (h : ¬ (k = 9 ∧ 1 < x.toNat)) (hx : ¬ 128 ≤ x.toNat) (h0 : ¬ (x.toNat = 0 ∧ 0 < k)) : numGo k n (x :: t) = (n + x.toNat % 128 * 128 ^ k, k + 1, 0) := by
  rw [numGo, if_neg h, if_neg hx, if_neg h0]

set_option maxRecDepth 100000 in
set_option maxHeartbeats 400000 in
theorem number_any (w : World) (A : Option Addr) (n c : Nat) (l : List UInt8) (hn : n = l.length) (hr : Rd w A (cb l)) (hl : l.length ≤ 1000000000) :
    Calls Tryd.prog 43 #[.slice A n c] w fun e w' => e = .returned (.tuple #[.int .u64 ((rdNum l).1 : Int), .int .i64 ((rdNum l).2.1 : Int), .int .i64 ((rdNum l).2.2 : Int)]) ∧ w = w' := by
  subst hn
  have HR := Lib.hid hr
  clear hr
  go_enter Tryd.func43, Tryd.ntmps43
  go_wp2
  go_loop [5, 10] (fun s i => ∃ k n : Nat, k ≤ l.length ∧ k ≤ 9 ∧ Hid (n < 128 ^ k) ∧ i = .int .i64 k ∧ s = .int .u64 n ∧ Hid (rdNum l = numGo k n (l.drop k))) (fun _ i => l.length - (intOf i).toNat)
  case atStart => exact ⟨0, 0, Nat.zero_le _, by omega, Lib.hid (by decide), rfl, rfl, rfl⟩
  case round =>
    obtain ⟨k, n, hk, hk9, HN, rfl, rfl, HG⟩ := hrel
    by_cases hlt : k < l.length
    · obtain ⟨b, o, rfl, hcell⟩ := HR.out.byte hlt
      have HD := Lib.hid (drop_cons l k hlt)
      generalize l.getD k 0 = x at *
      have hx : x.toNat < 256 := x.toNat_lt
      by_cases h9 : k = 9 ∧ 1 < x.toNat
      · have HX := Lib.hid (HG.out.trans (by rw [HD.out, numGo_form h9]))
        obtain ⟨rfl, h1⟩ := h9
        go_wp2
        go_ret3
        rw [HX.out]
        exact ⟨rfl, rfl⟩
      · have e1 := or_step n x.toNat k hk9 HN.out (fun e => by omega)
        by_cases hge : 128 ≤ x.toNat
        · have h9' : ¬ k = 9 := fun e => h9 ⟨e, by omega⟩
          have f1 : ((k : Int) == 9) = false := beq_eq_false_iff_ne.2 (by omega)
          have HX := Lib.hid (HG.out.trans (by rw [HD.out, numGo_on h9' hge]))
          have HB : Hid (n + x.toNat % 128 * 128 ^ k < 128 ^ (k + 1)) := by
            unfold Hid
            have h2 : x.toNat % 128 * 128 ^ k ≤ 127 * 128 ^ k := Nat.mul_le_mul_right _ (by omega)
            have h3 := HN.out
            rw [Nat.pow_succ]
            omega
          generalize n + x.toNat % 128 * 128 ^ k = n' at *
          clear h9
          go_wp2
          go_round
          case rel => exact ⟨k + 1, n', by omega, by omega, HB, by go_num, rfl, HX⟩
          case measure => simp [intOf]; omega
        · by_cases h0 : x.toNat = 0 ∧ 0 < k
          · have HX := Lib.hid (HG.out.trans (by rw [HD.out, numGo_nought h9 h0.1 h0.2]))
            have h01 := h0.2
            have f2 : ((x.toNat : Int) == 0) = true := beq_iff_eq.2 (by omega)
            have f3 : ¬ (128 : Int) ≤ (x.toNat : Int) := by omega
            by_cases hk99 : k = 9
            · subst hk99
              have f4 : ¬ (1 : Int) < (x.toNat : Int) := by omega
              clear h0 h9
              go_wp2
              all_goals
                go_ret3
                rw [HX.out]
                exact ⟨rfl, rfl⟩
            · have f1 : ((k : Int) == 9) = false := beq_eq_false_iff_ne.2 (by omega)
              clear h0 h9
              go_wp2
              all_goals
                go_ret3
                rw [HX.out]
                exact ⟨rfl, rfl⟩
          · have HX := Lib.hid (HG.out.trans (by rw [HD.out, numGo_end h9 hge h0]))
            have f3 : ¬ (128 : Int) ≤ (x.toNat : Int) := by omega
            by_cases hx0 : x.toNat = 0
            · have h01 : ¬ 0 < k := fun h => h0 ⟨hx0, h⟩
              have f1 : ((k : Int) == 9) = false := beq_eq_false_iff_ne.2 (by omega)
              have f2 : ((x.toNat : Int) == 0) = true := beq_iff_eq.2 (by omega)
              have f5 : ¬ (0 : Int) < (k : Int) := by omega
              generalize n + x.toNat % 128 * 128 ^ k = n' at *
              clear h0 h9 hx0 h01
              go_wp2
              all_goals
                go_ret3
                rw [HX.out]
                exact ⟨rfl, rfl⟩
            · have f2 : ((x.toNat : Int) == 0) = false := beq_eq_false_iff_ne.2 (by omega)
              by_cases hk99 : k = 9
              · subst hk99
                have f4 : ¬ (1 : Int) < (x.toNat : Int) := by omega
                have e9 := or_step9 n x.toNat HN.out (by omega)
                generalize n + x.toNat % 128 * 128 ^ 9 = n' at *
                clear h0 h9 e1
                go_wp2
                all_goals
                  go_ret3
                  rw [HX.out]
                  exact ⟨rfl, rfl⟩
              · have f1 : ((k : Int) == 9) = false := beq_eq_false_iff_ne.2 (by omega)
                generalize n + x.toNat % 128 * 128 ^ k = n' at *
                clear h0 h9
                go_wp2
                all_goals
                  go_ret3
                  rw [HX.out]
                  exact ⟨rfl, rfl⟩
    · go_wp2
      go_ret3
      have h0 : l.drop k = [] := List.drop_eq_nil_of_le (by omega)
      rw [HG.out, h0]
      exact ⟨rfl, rfl⟩
end Go.Proofs.YtdpjmkgjjhcgeaaDoor
