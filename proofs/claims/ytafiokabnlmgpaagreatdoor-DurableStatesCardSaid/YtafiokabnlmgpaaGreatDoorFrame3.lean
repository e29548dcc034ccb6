/- The contracts of Frame and Unframe. Conditions: lengths are short; the table holds its numbers. -/
import Derived.Test.YtafiokabnlmgpaaGreatDoorFrame2
import Derived.BigQuiet
import Derived.Deep.RegionWith
namespace Go.Proofs.YtafiokabnlmgpaaGreatDoor
open Go.RowKit

theorem frame_any (w : World) (ht : Tab w) (A : Option Addr) (n c : Nat) (l : List UInt8) (hn : n = l.length) (hr : Rd w A (cb l)) (hA : A = none → c = 0) (hl : l.length ≤ 4096) :
    Calls Tryz.prog 122 #[.slice A n c] w fun e w' => ∃ v', e = .returned (.tuple #[v', .int .i64 0]) ∧ New w w' v' (frameOf l) := by
  have HK := Lib.hid (framed_any w ht A n c l hn hr hA hl)
  clear ht hr hA
  have hn4 : n ≤ 4096 := by omega
  clear hn
  go_enter Tryz.func122, Tryz.ntmps122
  go_wp2_with fail
  refine HK.out.mono ?_
  rintro e w1 ⟨v1, rfl, hn1⟩
  have HN := Lib.hid hn1
  clear hn1 HK
  go_wp2_with fail
  go_ret2
  exact ⟨_, rfl, HN.out⟩

theorem frame_long (w : World) (A : Option Addr) (n c : Nat) (hl : 4096 < n) :
    Calls Tryz.prog 122 #[.slice A n c] w fun e w' => e = .returned (.tuple #[.slice none 0 0, .int .i64 1]) ∧ w' = w := by
  go_enter Tryz.func122, Tryz.ntmps122
  go_wp2
  go_ret2
  exact ⟨rfl, rfl⟩

def UnPost (w w' : World) (e : Ending) (u : List UInt8 × Nat × Nat) : Prop := ∃ v', e = .returned (.tuple #[v', .int .i64 u.2.1, .int .i64 u.2.2]) ∧ New w w' v' u.1

theorem or256 (x y : UInt8) : bits .or .i64 ((x.toNat : Int) * 256) (y.toNat : Int) = ((x.toNat * 256 + y.toNat : Nat) : Int) := by
  have hx : x.toNat < 256 := x.toNat_lt
  have hy : y.toNat < 256 := y.toNat_lt
  have e : x.toNat * 256 ||| y.toNat = x.toNat * 256 + y.toNat := by
    have h := Nat.two_pow_add_eq_or_of_lt (i := 8) (b := y.toNat) (by omega) x.toNat
    rw [Nat.mul_comm x.toNat 256]
    exact h.symm
  show IntKind.i64.wrap (((BitVec.ofInt 64 ((x.toNat : Int) * 256) ||| BitVec.ofInt 64 (y.toNat : Int)).toNat : Nat) : Int) = _
  rw [show (x.toNat : Int) * 256 = ((x.toNat * 256 : Nat) : Int) by omega, BitVec.ofInt_natCast, BitVec.ofInt_natCast, BitVec.toNat_or, BitVec.toNat_ofNat, BitVec.toNat_ofNat, Nat.mod_eq_of_lt (by omega), Nat.mod_eq_of_lt (by omega), e, IntKind.wrap_i64]
  omega

set_option maxRecDepth 100000 in
set_option maxHeartbeats 2000000 in
theorem unframe_any (w : World) (ht : Tab w) (A : Option Addr) (n c : Nat) (l : List UInt8) (hn : n = l.length) (hr : Rd w A (cb l)) (hA : A = none → c = 0) (hl : l.length ≤ 1000000000) (hnc : n ≤ c) :
    Calls Tryz.prog 137 #[.slice A n c] w fun e w' => UnPost w w' e (unfr l) := by
  subst hn
  have HT := Lib.hid ht
  have HR := Lib.hid hr
  have HA := Lib.hid hA
  clear ht hr hA
  obtain ⟨u, hu⟩ : ∃ u, u = unfr l := ⟨_, rfl⟩
  rw [← hu]
  have HU := Lib.hid hu
  clear hu
  by_cases h6 : l.length < 6
  · have HU2 : Hid (u = ([], 0, 30)) := by show _ = _; rw [HU.out]; unfold unfr; rw [if_pos h6]
    go_enter Tryz.func137, Tryz.ntmps137
    go_wp2_with fail
    go_ret3
    rw [HU2.out]
    exact ⟨_, rfl, World.ownsRow_nil _ _ _ _, Fr.refl _ _⟩
  · obtain ⟨b, o, rfl, hc0⟩ := HR.out.byte (k := 0) (by omega)
    obtain ⟨_, _, e1, hc1⟩ := HR.out.byte (k := 1) (by omega)
    injection e1 with e1
    injection e1 with e1 e2
    subst e1 e2
    rw [Nat.add_zero] at hc0
    obtain ⟨x, hx⟩ : ∃ x, x = l.getD 0 0 := ⟨_, rfl⟩
    obtain ⟨y, hy⟩ : ∃ y, y = l.getD 1 0 := ⟨_, rfl⟩
    rw [← hx] at hc0
    rw [← hy] at hc1
    have HX := Lib.hid hx
    have HY := Lib.hid hy
    have hx1 : x.toNat < 256 := x.toNat_lt
    have hy1 : y.toNat < 256 := y.toNat_lt
    clear hx hy
    have e1 := or256 x y
    obtain ⟨z, hz⟩ : ∃ z, z = x.toNat * 256 + y.toNat := ⟨_, rfl⟩
    rw [← hz] at e1
    have hz1 : z < 65536 := by omega
    have HZ := Lib.hid hz
    clear hz
    obtain ⟨q, hq⟩ : ∃ q, q = 6 + z := ⟨_, rfl⟩
    have e2 : (6 : Int) + (z : Int) = (q : Int) := by omega
    have HQ := Lib.hid hq
    obtain ⟨xn, hxn⟩ : ∃ xn, xn = x.toNat := ⟨_, rfl⟩
    obtain ⟨yn, hyn⟩ : ∃ yn, yn = y.toNat := ⟨_, rfl⟩
    have HXN := Lib.hid hxn
    have HYN := Lib.hid hyn
    rw [← hxn] at hc0 hx1 e1 HZ
    rw [← hyn] at hc1 hy1 e1 HZ
    clear hxn hyn hq
    by_cases h4 : 4096 < z
    · have HU2 : Hid (u = ([], 0, 31)) := by
        show _ = _
        rw [HU.out]; unfold unfr; rw [if_neg h6, if_pos]
        rw [← HX.out, ← HY.out, ← HXN.out, ← HYN.out, ← HZ.out]
        exact h4
      go_enter Tryz.func137, Tryz.ntmps137
      go_wp2
      go_quiet (fail)
      go_wp2
      go_ret3
      rw [HU2.out]
      exact ⟨_, rfl, World.ownsRow_nil _ _ _ _, (Fr.refl _ _).drewN _⟩
    by_cases hsh : l.length < q
    · have HU2 : Hid (u = ([], 0, 30)) := by
        show _ = _
        rw [HU.out]; unfold unfr; rw [if_neg h6, if_neg, if_pos]
        all_goals
          rw [← HX.out, ← HY.out, ← HXN.out, ← HYN.out, ← HZ.out]
          omega
      go_enter Tryz.func137, Tryz.ntmps137
      go_wp2
      go_quiet (fail)
      go_wp2
      go_ret3
      rw [HU2.out]
      exact ⟨_, rfl, World.ownsRow_nil _ _ _ _, (Fr.refl _ _).drewN _⟩
    obtain ⟨d, hd⟩ : ∃ d, d = (l.drop 6).take z := ⟨_, rfl⟩
    have hzq : q - 6 = z := by have := HQ.out; omega
    have hdz : d.length = z := by rw [hd, List.length_take, List.length_drop]; have := HQ.out; omega
    obtain ⟨t, ht⟩ : ∃ t, t = decide (frameOf d = l.take q) := ⟨_, rfl⟩
    have HU2 : Hid (u = if t then (d, q, 0) else ([], 0, 33)) := by
      show _ = _
      rw [HU.out]; unfold unfr
      rw [← HX.out, ← HY.out, ← HXN.out, ← HYN.out, ← HZ.out, ← HQ.out, ← hd, if_neg h6, if_neg h4, if_neg hsh, ht]
      by_cases h : frameOf d = l.take q <;> simp [h]
    have HB1 : Hid (c = 6 → d = []) := fun h => List.eq_nil_of_length_eq_zero (by have := HQ.out; omega)
    have HB2 : Hid (Rd w (some ⟨b, o + 6, none⟩) (cb d)) := by
      intro hx
      refine ⟨b, o + 6, rfl, fun j v hv => ?_⟩
      rw [cb_length] at hx
      obtain ⟨b', o', e, hcell⟩ := HR.out (by rw [cb_length]; omega)
      injection e with e
      injection e with ea eb
      subst ea eb
      rw [hd, cb_take, cb_drop, List.getElem?_take] at hv
      split at hv
      · rw [List.getElem?_drop] at hv
        rw [Nat.add_assoc]
        exact hcell _ _ hv
      · cases hv
    have HKc : Hid (∀ W B c', B ≠ none → Rd W B (cb d) → Calls Tryz.prog 81 #[.slice B (q - 6) c'] W fun e W' => ∃ A7 c7, e = .returned (.slice A7 (q - 6) c7) ∧ New W W' (.slice A7 (q - 6) c7) d) := fun W B c' hB hrd =>
      (clone_any W B (q - 6) c' d (by omega) hrd (fun h => absurd h hB) (by omega)).mono fun e W' ⟨v', he, hn⟩ => by
        obtain ⟨A7, c7, rfl, _, _⟩ := own_form hn.own
        rw [hdz, ← hzq] at he
        refine ⟨A7, c7, he, ?_⟩
        rw [← hzq] at hdz
        rw [hdz] at hn
        exact hn
    have HD := Lib.hid hdz
    have HT2 := Lib.hid ht
    have HFq := Lib.hid hzq
    clear hd hdz ht hzq
    have hqc : (q : Int) ≤ (c : Int) := by omega
    have hq6 : (6 : Int) ≤ (q : Int) := by omega
    go_enter Tryz.func137, Tryz.ntmps137
    go_wp2
    go_quiet (fail)
    have HF2 := Lib.hid ((Fr.refl NoBlk w).drewN nq)
    generalize w.drewN nq = w2 at *
    go_wp2_with fail
    all_goals
      refine (HKc.out _ _ _ (by simp) ?_).mono ?_
      · first | exact HB2.out.nofr HF2.out | (rw [HB1.out ‹_›]; exact Rd.none_ _ _)
      rintro e w3 ⟨A7, c7, rfl, hn7⟩
      have HN7 := Lib.hid hn7
      have HF3 := Lib.hid (HF2.out.trans hn7.fr)
      obtain ⟨_, _, e7, _, hA7⟩ := own_form hn7.own
      injection e7 with e7 e6 e8
      subst e7 e8
      clear e6
      have HA7 := Lib.hid hA7
      clear hn7 hA7
      obtain ⟨f4, hf4⟩ : ∃ f4, f4 = frameOf d := ⟨_, rfl⟩
      obtain ⟨m4, hm4⟩ : ∃ m4, m4 = f4.length := ⟨_, rfl⟩
      have HK38 : Hid (∀ W, Fr NoBlk w3 W → Calls Tryz.prog 153 #[.slice A7 (q - 6) c7] W fun e W' => ∃ A4 c4, e = .returned (.slice A4 m4 c4) ∧ Rd W' A4 (cb f4) ∧ Fr NoBlk w3 W') := fun W hW =>
        (framed_any W ((HT.out.fr HF3.out (fun h => h)).fr hW (fun h => h)) A7 (q - 6) c7 d (by have h1 := HD.out; have h2 := HFq.out; omega) (by
          have h := HN7.out.own
          rw [show d.length = q - 6 by have h1 := HD.out; have h2 := HFq.out; omega] at h
          exact (Rd.of_own h).nofr hW) HA7.out (by have h1 := HD.out; omega)).mono fun e W' ⟨v', he, hn⟩ => by
          obtain ⟨A4, c4, rfl, _, _⟩ := own_form hn.own
          refine ⟨A4, c4, ?_, ?_, hW.trans hn.fr⟩
          · rw [he, hm4, hf4]
          · rw [hf4]
            exact Rd.of_own hn.own
      have HK39 : Hid (∀ W A4 c4 c', Rd W A4 (cb f4) → Fr NoBlk w3 W → Calls Tryz.prog 138 #[.slice A4 m4 c4, .slice (some ⟨b, o, none⟩) q c'] W fun e W' => e = .returned (.bool t) ∧ W' = W) := fun W A4 c4 c' hrd hW =>
        (equal_any W A4 (some ⟨b, o, none⟩) m4 q c4 c' f4 (l.take q) hm4 (by rw [List.length_take]; omega) hrd (by
          rw [cb_take]
          exact ((HR.out.nofr HF3.out).nofr hW).take q)).mono fun e W' ⟨he, hw⟩ => ⟨by rw [he, HT2.out, hf4], hw⟩
      clear hf4 hm4
      cases t
      all_goals
        go_wp2_with fail
        go_region_with (first
          | (go_at_call 153; refine (HK38.out _ ?_).mono ?_; exact (Fr.refl _ _).drew; rintro e w4 ⟨A4, c4, rfl, hr4, hf4⟩; have HR4 := Lib.hid hr4; have HF4 := Lib.hid hf4; clear hr4 hf4)
          | (go_at_call 138; refine (HK39.out _ _ _ _ HR4.out HF4.out).mono ?_; rintro e w5 ⟨rfl, rfl⟩))
      all_goals
        have HFF := Lib.hid (HF3.out.trans HF4.out)
        go_wp2
        go_ret3
        rw [HU2.out]
        first
          | exact ⟨_, rfl, World.ownsRow_nil _ _ _ _, HFF.out⟩
          | exact ⟨_, rfl, own_base (own_fr HN7.out.own HF4.out (fun _ _ h => h)) HF2.out.size, HFF.out⟩
end Go.Proofs.YtafiokabnlmgpaaGreatDoor
