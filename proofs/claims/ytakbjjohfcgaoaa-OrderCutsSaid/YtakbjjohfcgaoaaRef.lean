/- The document's In, Rising, op. No condition but lengths. -/
import Derived.Test.YtakbjjohfcgaoaaRight
namespace Go.Proofs.Ytakbjjohfcgaoaa
open Go.RowKit

set_option maxRecDepth 100000 in
theorem in_any (w : World) (A : Option Addr) (n c : Nat) (xs : List Bs) (key : Bs) (hn : n = xs.length) (hr : Rd w A (sts xs)) (hm : xs.length ≤ maxLen) :
    Calls Try.prog 49 #[.slice A n c, .string (bstr key)] w fun e w' => e = .returned (.bool (inB xs key)) ∧ w = w' := by
  subst hn
  have HR := Lib.hid hr
  clear hr
  unfold maxLen at hm
  go_enter Try.func49, Try.ntmps49
  go_wp2_with fail
  go_loop [5] (fun z => ∃ k : Nat, k ≤ xs.length ∧ z = .int .i64 k ∧ Hid (∀ j, j < k → (key == xs.getD j []) = false)) (fun z => xs.length - (intOf z).toNat)
  case atStart => exact ⟨0, by omega, rfl, (fun j h1 => absurd h1 (by omega))⟩
  case round =>
    obtain ⟨k, hk, rfl, HL⟩ := hrel
    by_cases hlt : k < xs.length
    · obtain ⟨b, o, rfl, hc1⟩ := HR.out.text (k := k) hlt
      have HX : Hid ((xs.getD k [] == key) = false → ∀ j, j < k + 1 → (key == xs.getD j []) = false) := by
        intro h j hj2
        by_cases e : j = k
        · subst e; rw [Bool.beq_comm]; exact h
        · exact HL.out j (by omega)
      have HN : Hid ((xs.getD k [] == key) = true → inB xs key = true) := fun h => inB_at xs key k hlt (by rw [Bool.beq_comm]; exact h)
      generalize xs.getD k [] = y at *
      have e3 := bstr_toList key
      have e4 := bstr_toList y
      cases hb : y == key
      · have HY := Lib.hid (HX.out hb)
        go_wp2_with fail
        go_round
        case rel => exact ⟨k + 1, by omega, by go_num, HY⟩
        case measure => simp [intOf]; omega
      · go_wp2_with fail
        go_ret
        exact ⟨by rw [HN.out hb]; rfl, rfl⟩
    · have HZ : Hid (inB xs key = false) := inB_no xs key fun j a => HL.out j (by omega)
      go_wp2_with fail
      go_ret
      exact ⟨by rw [HZ.out]; rfl, rfl⟩

set_option maxRecDepth 100000 in
theorem rising_any (w : World) (A : Option Addr) (n c : Nat) (xs : List Bs) (hn : n = xs.length) (hr : Rd w A (sts xs)) (hm : xs.length ≤ maxLen) :
    Calls Try.prog 48 #[.slice A n c] w fun e w' => e = .returned (.bool (riseB xs)) ∧ Fr NoBlk w w' := by
  subst hn
  have HR := Lib.hid hr
  clear hr
  unfold maxLen at hm
  go_enter Try.func48, Try.ntmps48
  go_wp2_with fail
  go_loopw [3] (fun z wr => ∃ k : Nat, 1 ≤ k ∧ (k ≤ xs.length ∨ k = 1) ∧ z = .int .i64 k ∧ Hid (∀ j, 1 ≤ j → j < k → Op.bytesLess (xs.getD (j - 1) []) (xs.getD j []) = true) ∧ Hid (Fr NoBlk w wr)) (fun z _ => xs.length - (intOf z).toNat)
  case atStart => exact ⟨1, by omega, by omega, rfl, (fun j h1 h2 => absurd h1 (by omega)), Fr.refl _ _⟩
  case round =>
    obtain ⟨k, h1, hk, rfl, HL, HF⟩ := hrel
    by_cases hlt : k < xs.length
    · obtain ⟨b, o, rfl, hc1⟩ := (HR.out.nofr HF.out).text (k := k) hlt
      obtain ⟨b', o', e, hc0⟩ := (HR.out.nofr HF.out).text (k := k - 1) (by omega)
      injection e with e
      injection e with e1 e2 _
      subst e1 e2
      have HX : Hid (Op.bytesLess (xs.getD (k - 1) []) (xs.getD k []) = true → ∀ j, 1 ≤ j → j < k + 1 → Op.bytesLess (xs.getD (j - 1) []) (xs.getD j []) = true) := by
        intro h j hj1 hj2
        by_cases e : j = k
        · subst e; exact h
        · exact HL.out j hj1 (by omega)
      have HN := Lib.hid (riseB_no xs k h1 hlt)
      generalize xs.getD (k - 1) [] = x at *
      generalize xs.getD k [] = y at *
      have i1 : (0 : Int) ≤ (k : Int) - 1 := by omega
      have i2 : (k : Int) - 1 < (xs.length : Int) := by omega
      have i3 : (k : Int) < (xs.length : Int) := by omega
      have e1 : IntKind.i64.wrap ((k : Int) - 1) = (k : Int) - 1 := IntWalk.i64_in _ (by omega)
      have e2 : ((k : Int) - 1).toNat = k - 1 := by omega
      have e3 := bstr_toList x
      have e4 := bstr_toList y
      cases hb : Op.bytesLess x y
      · go_wp2_with fail
        go_quiet (fail)
        go_wp2
        go_ret
        exact ⟨by rw [HN.out hb]; rfl, HF.out.drewN _⟩
      · have HY := Lib.hid (HX.out hb)
        go_wp2_with fail
        go_quiet (fail)
        go_wp2
        go_roundw
        case rel => exact ⟨k + 1, by omega, by omega, by go_num, HY, HF.out.drewN _⟩
        case measure => simp [intOf]; omega
    · have HZ : Hid (riseB xs = true) := riseB_of xs fun j a b => HL.out j a (by omega)
      have i3 : (xs.length : Int) ≤ (k : Int) := by omega
      go_wp2_with fail
      go_ret
      exact ⟨by rw [HZ.out]; rfl, HF.out⟩

set_option maxRecDepth 100000 in
set_option maxHeartbeats 2000000 in
theorem op_any (w : World) (t : Tx) (x : Opn) (ht : TxIn w t) (hv : x.val.2.2.length ≤ maxLen) (hk : x.key.length ≤ maxLen) :
    Calls Try.prog 50 #[txv t, opv x] w fun e w' => e = .returned (.bool (opR t x)) ∧ Fr NoBlk w w' := by
  have HF : Hid (Fr NoBlk w ((w.alloc (.cells (txa t) 30)).alloc (.cells #[.int .i64 x.kind, st x.key, sl x.val, .int .i64 x.n] 47))) := ((Fr.refl _ _).alloc _).alloc _
  have HW := Lib.hid fun W (hf : Fr NoBlk w W) => in_any W t.wa _ t.wc t.writes x.key rfl (ht.writes.nofr hf) (Nat.le_trans ht.wl.1 ht.wl.2.1)
  have HC := Lib.hid fun W (hf : Fr NoBlk w W) => in_any W t.ra _ t.rc t.reads x.key rfl (ht.reads.nofr hf) (Nat.le_trans ht.rl.1 ht.rl.2.1)
  clear ht
  obtain ⟨kind, key, ⟨va, vc, vb⟩, nn⟩ := x
  have HD : Hid (opR t ⟨kind, key, ⟨va, vc, vb⟩, nn⟩ = dOp (inB t.writes key) (inB t.reads key) key.isEmpty kind vb.length nn) := rOp_dOp _ _ _ _ _ _
  unfold txa sl st at HF
  dsimp only at HF HW HC hv hk
  unfold opv txv txa sl st
  dsimp only
  have e3 := bstr_toList key
  have e4 := bstr_size key
  unfold maxLen at hv hk
  have HCw := Lib.hid (HW.out _ HF.out)
  have HCr := Lib.hid (HC.out _ HF.out)
  clear HW HC
  generalize opR t ⟨kind, key, ⟨va, vc, vb⟩, nn⟩ = res at *
  generalize inB t.writes key = wr at *
  generalize inB t.reads key = rd at *
  generalize t.writes.length = wn at *
  generalize t.reads.length = rn at *
  generalize t.ops.length = on at *
  generalize vb.length = vl at *
  have hn0 : ((nn : Int) == 0) = decide (nn = 0) := by rw [Bool.eq_iff_iff]; simp
  have hv0 : ((vl : Int) == 0) = decide (vl = 0) := by rw [Bool.eq_iff_iff]; simp
  by_cases h1 : 32 < vl
  · go_enter Try.func50, Try.ntmps50
    go_wp2_with fail
    go_ret
    refine ⟨ret_bool ?_, HF.out⟩
    rw [HD.out, dOp, if_pos (.inl h1)]
  by_cases h2 : kind < 1
  · go_enter Try.func50, Try.ntmps50
    go_wp2_with fail
    go_ret
    refine ⟨ret_bool ?_, HF.out⟩
    rw [HD.out, dOp, if_pos (.inr (.inl h2))]
  by_cases h3 : 7 < kind
  · go_enter Try.func50, Try.ntmps50
    go_wp2_with fail
    go_ret
    refine ⟨ret_bool ?_, HF.out⟩
    rw [HD.out, dOp, if_pos (.inr (.inr h3))]
  have hkk : kind = 1 ∨ kind = 2 ∨ kind = 3 ∨ kind = 4 ∨ kind = 5 ∨ kind = 6 ∨ kind = 7 := by omega
  clear h2 h3
  rcases hkk with rfl | rfl | rfl | rfl | rfl | rfl | rfl
  rotate_right
  · go_enter Try.func50, Try.ntmps50
    go_wp2_with fail
    all_goals
      go_ret
      refine ⟨ret_bool ?_, ((Fr.refl _ _).alloc _).alloc _⟩
      rw [HD.out]
      clear HD HCw HCr HF
      go_light
      unfold dOp
      first | (simp_all; done) | (simp_all; intros; omega)
  all_goals
    go_enter Try.func50, Try.ntmps50
    go_wp2_with fail
    refine HCw.out.mono ?_
    rintro e w1 ⟨rfl, rfl⟩
    cases wr
    · go_wp2_with fail
      refine HCr.out.mono ?_
      rintro e w2 ⟨rfl, rfl⟩
      cases rd
      · go_wp2_with fail
        all_goals
          go_ret
          refine ⟨ret_bool ?_, ((Fr.refl _ _).alloc _).alloc _⟩
          rw [HD.out]
          clear HD HCw HCr HF
          go_light
          unfold dOp
          first | (simp_all; done) | (simp_all; intros; omega)
      · go_wp2_with fail
        all_goals
          go_ret
          refine ⟨ret_bool ?_, ((Fr.refl _ _).alloc _).alloc _⟩
          rw [HD.out]
          clear HD HCw HCr HF
          go_light
          unfold dOp
          first | (simp_all; done) | (simp_all; intros; omega)
    · go_wp2_with fail
      all_goals
        go_ret
        refine ⟨ret_bool ?_, ((Fr.refl _ _).alloc _).alloc _⟩
        rw [HD.out]
        clear HD HCw HCr HF
        go_light
        unfold dOp
        first | (simp_all; done) | (simp_all; intros; omega)
end Go.Proofs.Ytakbjjohfcgaoaa
