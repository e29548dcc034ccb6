/- The contract of the document's own eye for numbers. Conditions: the bytes lie elsewhere than the eye; lengths are short. -/
import Derived.Test.YtdpjmkgjjhcgeaaDoorREye
namespace Go.Proofs.YtdpjmkgjjhcgeaaDoor
open Go.RowKit

theorem mul_step (x W : Nat) (h : x % 128 * W < 18446744073709551616) : IntKind.u64.wrap ((x : Int) % 128 * (W : Int)) = ((x % 128 * W : Nat) : Int) := by
  rw [show ((x : Int) % 128 * (W : Int)) = ((x % 128 * W : Nat) : Int) by push_cast; rfl]
  generalize x % 128 * W = y at *
  simp only [IntKind.wrap, IntKind.bits, IntKind.signed]
  simp
  omega
theorem add_step (n y : Nat) (h : n + y < 18446744073709551616) : IntKind.u64.wrap ((n : Int) + (y : Int)) = ((n + y : Nat) : Int) := by
  simp only [IntKind.wrap, IntKind.bits, IntKind.signed]
  simp
  omega
theorem mul128 (W : Nat) (h : W * 128 < 18446744073709551616) : IntKind.u64.wrap ((W : Int) * 128) = ((W * 128 : Nat) : Int) := by
  simp only [IntKind.wrap, IntKind.bits, IntKind.signed]
  simp
  omega

theorem grow (n x k : Nat) (hk : k ≤ 9) (hn : n < 128 ^ k) (h9 : k = 9 → x ≤ 1) : x % 128 * 128 ^ k < 18446744073709551616 ∧ n + x % 128 * 128 ^ k < 18446744073709551616 := by
  have hp := pow_le9 hk
  by_cases h : k = 9
  · subst h
    have : x % 128 ≤ 1 := by have := h9 rfl; omega
    have := Nat.mul_le_mul_right (128 ^ 9) this
    omega
  · have h8 : (128 : Nat) ^ k ≤ 128 ^ 8 := Nat.pow_le_pow_right (by omega) (by omega)
    have : x % 128 * 128 ^ k ≤ 127 * 128 ^ 8 := Nat.mul_le_mul (by omega) h8
    omega

def RNumPost (w : World) (g : Nat) (A : Option Addr) (c : Nat) (l : List UInt8) (i : Nat) (e : Ending) (w' : World) : Prop :=
  e = .returned (.tuple #[.int .u64 ((rdNum (l.drop i)).1 : Int), .int .i64 ((rdNum (l.drop i)).2.2 : Int)]) ∧ REyed w w' g A c l (i + (rdNum (l.drop i)).2.1)

theorem RNumPost.fail {w w' : World} {g : Nat} {A : Option Addr} {c : Nat} {l : List UInt8} {i k : Nat} {kv : Int} (hr : rdNum (l.drop i) = (0, 0, k)) (hk : kv = (k : Int)) (hy : REyed w w' g A c l i) :
    RNumPost w g A c l i (.returned (.tuple #[.int .u64 0, .int .i64 kv])) w' := by
  subst hk
  exact ⟨by rw [hr]; rfl, by rw [hr]; exact hy⟩
theorem RNumPost.done {w w' : World} {g : Nat} {A : Option Addr} {c : Nat} {l : List UInt8} {i n s : Nat} (hr : rdNum (l.drop i) = (n, s, 0)) (hy : REyed w w' g A c l (i + s)) :
    RNumPost w g A c l i (.returned (.tuple #[.int .u64 (n : Int), .int .i64 0])) w' :=
  ⟨by rw [hr]; rfl, by rw [hr]; exact hy⟩

set_option maxRecDepth 100000 in
set_option maxHeartbeats 1000000 in
theorem reyeNum_any (w : World) (g : Nat) (A : Option Addr) (c : Nat) (l : List UInt8) (i : Nat) (he : REye w g A c l i) (hl : l.length ≤ 1000000000) :
    Calls Tryd.prog 31 #[.pointer (some ⟨g, 0, none⟩)] w (RNumPost w g A c l i) := by
  have HE := Lib.hid he
  have hil := he.at_
  clear he
  go_enter Tryd.func31, Tryd.ntmps31
  go_wp2
  go_loopw [4, 5, 6] (fun s W k' wr => ∃ k n W' : Nat, k ≤ 9 ∧ i + k ≤ l.length ∧ Hid (n < 128 ^ k) ∧ Hid (W' = 128 ^ k) ∧ k' = .int .i64 k ∧ s = .int .u64 n ∧ W = .int .u64 W' ∧ Hid (rdNum (l.drop i) = numGo k n (l.drop (i + k))) ∧ Hid (REyed w wr g A c l i)) (fun _ _ k' _ => l.length - (intOf k').toNat)
  case atStart => exact ⟨0, 0, 1, by omega, hil, Lib.hid (by decide), Lib.hid (by decide), rfl, rfl, rfl, rfl, Lib.hid (HE.out.here 0)⟩
  case round =>
    obtain ⟨k, n, W, hk9, hkl, HN, HW, rfl, rfl, rfl, HG, HY⟩ := hrel
    obtain ⟨hc0, hc1, hf1⟩ := HY.out.eye.cells
    by_cases hlt : i + k < l.length
    · obtain ⟨b, o, rfl, hcell⟩ := HY.out.eye.rd.byte hlt
      have HD := Lib.hid (drop_cons l (i + k) hlt)
      generalize l.getD (i + k) 0 = x at *
      have hx : x.toNat < 256 := x.toNat_lt
      go_wp2
      go_quiet (fail)
      go_wp2
      go_quiet (fail)
      clear hcell
      by_cases h9 : k = 9 ∧ 1 < x.toNat
      · have HX := Lib.hid (HG.out.trans (by rw [HD.out, numGo_form h9]))
        have f1 : ((k : Int) == 9) = true := beq_iff_eq.2 (by omega)
        have f2 : (1 : Int) < (x.toNat : Int) := by omega
        clear h9
        go_wp2
        go_ret2
        exact RNumPost.fail HX.out rfl (HY.out.drewN _)
      · have hg := grow n x.toNat k hk9 HN.out (fun e => by omega)
        rw [← HW.out] at hg
        have e1 := mul_step x.toNat W hg.1
        have e2 := add_step n (x.toNat % 128 * W) hg.2
        clear hg
        by_cases hge : 128 ≤ x.toNat
        · have h9' : ¬ k = 9 := fun e => h9 ⟨e, by omega⟩
          have f1 : ((k : Int) == 9) = false := beq_eq_false_iff_ne.2 (by omega)
          have f2 : ¬ (x.toNat : Int) < 128 := by omega
          have HX := Lib.hid (HG.out.trans (by rw [HD.out, numGo_on h9' hge, ← HW.out]))
          have hk8 : (128 : Nat) ^ k ≤ 128 ^ 8 := Nat.pow_le_pow_right (by omega) (by omega)
          have e3 := mul128 W (by rw [HW.out]; omega)
          have HW2 : Hid (W * 128 = 128 ^ (k + 1)) := by unfold Hid; rw [HW.out, Nat.pow_succ]
          have HB : Hid (n + x.toNat % 128 * W < 128 ^ (k + 1)) := by
            unfold Hid
            have h2 : x.toNat % 128 * 128 ^ k ≤ 127 * 128 ^ k := Nat.mul_le_mul_right _ (by omega)
            have h3 := HN.out
            rw [Nat.pow_succ, HW.out]
            omega
          generalize x.toNat % 128 * W = y at *
          generalize n + y = n' at *
          generalize W * 128 = W' at *
          clear h9 hk8
          go_wp2
          go_roundw
          case rel => exact ⟨k + 1, n', W', by omega, by omega, HB, HW2, by go_num, rfl, rfl, HX, HY.out.drewN _⟩
          case measure => simp [intOf]; omega
        · have f3 : (x.toNat : Int) < 128 := by omega
          by_cases h0 : x.toNat = 0 ∧ 0 < k
          · have HX := Lib.hid (HG.out.trans (by rw [HD.out, numGo_nought h9 h0.1 h0.2]))
            have h01 := h0.2
            have f2 : ((x.toNat : Int) == 0) = true := beq_iff_eq.2 (by omega)
            have f4 : ¬ (1 : Int) < (x.toNat : Int) := by omega
            have f5 : (0 : Int) < (k : Int) := by omega
            generalize x.toNat % 128 * W = y at *
            generalize n + y = n' at *
            by_cases hk99 : k = 9
            · have f1 : ((k : Int) == 9) = true := beq_iff_eq.2 (by omega)
              clear h0 h9 hk99
              go_wp2
              all_goals
                go_ret2
                exact RNumPost.fail HX.out rfl (HY.out.drewN _)
            · have f1 : ((k : Int) == 9) = false := beq_eq_false_iff_ne.2 (by omega)
              clear h0 h9 hk99
              go_wp2
              all_goals
                go_ret2
                exact RNumPost.fail HX.out rfl (HY.out.drewN _)
          · have HX := Lib.hid (HG.out.trans (by rw [HD.out, numGo_end h9 hge h0, ← HW.out]))
            have HZ := Lib.hid (fun m => ((HY.out.drewN m).eye.put (j := i + (k + 1)) (by omega) ((i : Int) + ((k : Int) + 1)) (by omega)))
            generalize x.toNat % 128 * W = y at *
            generalize n + y = n' at *
            by_cases hx0 : x.toNat = 0
            · have h01 : ¬ 0 < k := fun h => h0 ⟨hx0, h⟩
              have f1 : ((k : Int) == 9) = false := beq_eq_false_iff_ne.2 (by omega)
              have f2 : ((x.toNat : Int) == 0) = true := beq_iff_eq.2 (by omega)
              have f5 : ¬ (0 : Int) < (k : Int) := by omega
              clear h0 h9 hx0 h01
              go_wp2
              all_goals
                go_ret2
                exact RNumPost.done HX.out ((HY.out.drewN _).trans (HZ.out _))
            · have f2 : ((x.toNat : Int) == 0) = false := beq_eq_false_iff_ne.2 (by omega)
              by_cases hk99 : k = 9
              · have f1 : ((k : Int) == 9) = true := beq_iff_eq.2 (by omega)
                have f4 : ¬ (1 : Int) < (x.toNat : Int) := by omega
                clear h0 h9 hk99
                go_wp2
                all_goals
                  go_ret2
                  exact RNumPost.done HX.out ((HY.out.drewN _).trans (HZ.out _))
              · have f1 : ((k : Int) == 9) = false := beq_eq_false_iff_ne.2 (by omega)
                clear h0 h9 hk99
                go_wp2
                all_goals
                  go_ret2
                  exact RNumPost.done HX.out ((HY.out.drewN _).trans (HZ.out _))
    · have h0 : l.drop (i + k) = [] := List.drop_eq_nil_of_le (by omega)
      have HX := Lib.hid (HG.out.trans (show numGo k n (l.drop (i + k)) = (0, 0, 30) by rw [h0]; rfl))
      clear h0
      go_wp2
      go_quiet (fail)
      go_wp2
      go_ret2
      exact RNumPost.fail HX.out rfl (HY.out.drewN _)
end Go.Proofs.YtdpjmkgjjhcgeaaDoor
