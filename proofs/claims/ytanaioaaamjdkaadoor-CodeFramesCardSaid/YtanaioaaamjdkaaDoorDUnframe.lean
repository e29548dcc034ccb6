/- The document's Unframe takes the body off a frame, or refuses. Condition: lengths. -/
import Derived.Test.YtanaioaaamjdkaaDoorDFrame
namespace Go.Proofs.YtanaioaaamjdkaaDoor
open Go.RowKit

def bs (l : List UInt8) : ByteArray := ⟨l.toArray⟩
theorem bs_toList (l : List UInt8) : (bs l).toList = l := by
  rw [ByteArray.toList_eq]
  simp [bs]
theorem new_empty (w w' : World) (h : Fr NoBlk w w') : New w (w'.alloc (.cells #[] 5)) (.slice (some ⟨w'.heap.size, 0, none⟩) 0 0) [] :=
  ⟨own_base (World.ownsRow_made (e := 5) (size := 1) w' #[] 0 (Nat.le_refl _) (by decide) rfl) h.size, h.alloc _⟩

set_option maxRecDepth 100000 in
set_option maxHeartbeats 4000000 in
theorem dunframe_any (w : World) (A : Option Addr) (n c : Nat) (l : List UInt8) (hn : n = l.length) (hr : Rd w A (cb l)) (hA : A = none → c = 0) (hl : l.length ≤ 1000000000) (hnc : n ≤ c) :
    Calls Tryd.prog 33 #[.slice A n c] w fun e w' => UnPost w w' e (unfr l) := by
  subst hn
  obtain ⟨i0, hi, iz0, iz1, iz2⟩ := info_parts byteInfo
  have HR := Lib.hid hr
  have HA := Lib.hid hA
  clear hr hA
  obtain ⟨u, hu⟩ : ∃ u, u = unfr l := ⟨_, rfl⟩
  rw [← hu]
  have HU := Lib.hid hu
  clear hu
  by_cases h6 : l.length < 6
  · have HU2 : Hid (u = ([], 0, 30)) := by show _ = _; rw [HU.out]; unfold unfr; rw [if_pos h6]
    go_enter Tryd.func33, Tryd.ntmps33
    go_wp2_with fail
    go_ret3
    rw [HU2.out]
    exact ⟨_, rfl, new_empty w w (Fr.refl _ _)⟩
  · obtain ⟨b, o, rfl, hc0⟩ := HR.out.byte (k := 0) (by omega)
    obtain ⟨_, _, e1, hc1⟩ := HR.out.byte (k := 1) (by omega)
    injection e1 with e1
    injection e1 with e1 e2
    subst e1 e2
    rw [Nat.add_zero] at hc0
    obtain ⟨x, hx⟩ : ∃ x, x = l.getD 0 0 := ⟨_, rfl⟩
    obtain ⟨y, hy⟩ : ∃ y, y = l.getD 1 0 := ⟨_, rfl⟩
    rw [← hx] at hc0
    rw [← hy] at hc1
    have HX := Lib.hid hx
    have HY := Lib.hid hy
    have hx1 : x.toNat < 256 := x.toNat_lt
    have hy1 : y.toNat < 256 := y.toNat_lt
    clear hx hy
    obtain ⟨z, hz⟩ : ∃ z, z = x.toNat * 256 + y.toNat := ⟨_, rfl⟩
    have hz1 : z < 65536 := by omega
    have HZ := Lib.hid hz
    obtain ⟨q, hq⟩ : ∃ q, q = 6 + z := ⟨_, rfl⟩
    have e2 : (6 : Int) + (z : Int) = (q : Int) := by omega
    have HQ := Lib.hid hq
    obtain ⟨xn, hxn⟩ : ∃ xn, xn = x.toNat := ⟨_, rfl⟩
    obtain ⟨yn, hyn⟩ : ∃ yn, yn = y.toNat := ⟨_, rfl⟩
    have HXN := Lib.hid hxn
    have HYN := Lib.hid hyn
    rw [← hxn] at hc0 hx1 hz HZ
    rw [← hyn] at hc1 hy1 hz HZ
    have e3 : IntKind.i64.wrap (256 * (xn : Int)) = 256 * (xn : Int) := IntWalk.i64_in _ (by omega)
    have e4 : IntKind.i64.wrap (256 * (xn : Int) + (yn : Int)) = (z : Int) := by rw [IntWalk.i64_in _ (by omega)]; omega
    have e5 : 256 * (xn : Int) + (yn : Int) = (z : Int) := by omega
    clear hxn hyn hq hz
    by_cases h4 : 4096 < z
    · have HU2 : Hid (u = ([], 0, 31)) := by
        show _ = _
        rw [HU.out]; unfold unfr; rw [if_neg h6, if_pos]
        rw [← HX.out, ← HY.out, ← HXN.out, ← HYN.out, ← HZ.out]
        exact h4
      go_enter Tryd.func33, Tryd.ntmps33
      go_wp2
      go_quiet (fail)
      go_wp2
      go_ret3
      rw [HU2.out]
      exact ⟨_, rfl, new_empty w _ ((Fr.refl _ _).drewN _)⟩
    by_cases hsh : l.length < q
    · have HU2 : Hid (u = ([], 0, 30)) := by
        show _ = _
        rw [HU.out]; unfold unfr; rw [if_neg h6, if_neg, if_pos]
        all_goals
          rw [← HX.out, ← HY.out, ← HXN.out, ← HYN.out, ← HZ.out]
          omega
      have hzl : (l.length : Int) - 6 < (z : Int) := by omega
      go_enter Tryd.func33, Tryd.ntmps33
      go_wp2
      go_quiet (fail)
      go_wp2
      go_ret3
      rw [HU2.out]
      exact ⟨_, rfl, new_empty w _ ((Fr.refl _ _).drewN _)⟩
    obtain ⟨d, hd⟩ : ∃ d, d = (l.drop 6).take z := ⟨_, rfl⟩
    have hzq : q - 6 = z := by have := HQ.out; omega
    have hdz : d.length = z := by rw [hd, List.length_take, List.length_drop]; have := HQ.out; omega
    have HU2 : Hid (u = if frameOf d = l.take q then (d, q, 0) else ([], 0, 33)) := by
      show _ = _
      rw [HU.out]; unfold unfr
      rw [← HX.out, ← HY.out, ← HXN.out, ← HYN.out, ← HZ.out, ← HQ.out, ← hd, if_neg h6, if_neg h4, if_neg hsh]
    have HB1 : Hid (c = 6 → d = []) := fun h => List.eq_nil_of_length_eq_zero (by have := HQ.out; omega)
    have HB2 : Hid (Rd w (some ⟨b, o + 6, none⟩) (cb d)) := by
      intro hx
      refine ⟨b, o + 6, rfl, fun j v hv => ?_⟩
      rw [cb_length] at hx
      obtain ⟨b', o', e, hcell⟩ := HR.out (by rw [cb_length]; omega)
      injection e with e
      injection e with ea eb
      subst ea eb
      rw [hd, cb_take, cb_drop, List.getElem?_take] at hv
      split at hv
      · rw [List.getElem?_drop] at hv
        rw [Nat.add_assoc]
        exact hcell _ _ hv
      · cases hv
    obtain ⟨f, hf⟩ : ∃ f, f = frameOf d := ⟨_, rfl⟩
    have hfl : f.length = q := by rw [hf, frameOf_len, hdz]; have := HQ.out; omega
    have HKc : Hid (∀ W B c', B ≠ none → Rd W B (cb d) → Calls Tryd.prog 31 #[.slice B (q - 6) c'] W fun e W' => ∃ A7 c7, e = .returned (.tuple #[.slice A7 q c7, .int .i64 0]) ∧ New W W' (.slice A7 q c7) f) := fun W B c' hB hrd =>
      (dframe_any W B (q - 6) c' d (by omega) hrd (fun h => absurd h hB) (by omega)).mono fun e W' ⟨v', he, hn⟩ => by
        obtain ⟨A7, c7, rfl, _, _⟩ := own_form hn.own
        rw [← hf, hfl] at he hn
        exact ⟨A7, c7, he, hn⟩
    have HD := Lib.hid hdz
    have HFL := Lib.hid hfl
    have HFq := Lib.hid hzq
    rw [← hf] at HU2
    clear hd hdz hzq hf hfl
    have hqc : (q : Int) ≤ (c : Int) := by omega
    have hq6 : (6 : Int) ≤ (q : Int) := by omega
    have hq0 : (0 : Int) ≤ (q : Int) := by omega
    have e6 : IntKind.i64.wrap ((6 : Int) + (z : Int)) = (q : Int) := by rw [IntWalk.i64_in _ (by omega)]; omega
    have hzl : (z : Int) ≤ (l.length : Int) - 6 := by omega
    have HG : Hid ((l.take q).length = q) := by show _ = _; rw [List.length_take]; omega
    have HRG : Hid (Rd w (some ⟨b, o, none⟩) (cb (l.take q))) := by
      show Rd _ _ _
      rw [cb_take]
      exact HR.out.take q
    generalize l.take q = g at HG HRG HU2
    go_enter Tryd.func33, Tryd.ntmps33
    go_wp2
    go_quiet (fail)
    have HF2 := Lib.hid ((Fr.refl NoBlk w).drewN nq)
    generalize w.drewN nq = w2 at *
    go_wp2_with fail
    all_goals
      refine (HKc.out _ _ _ (by simp) ?_).mono ?_
      · first | exact HB2.out.nofr HF2.out | (rw [HB1.out ‹_›]; exact Rd.none_ _ _)
      rintro e w3 ⟨A7, c7, rfl, hn7⟩
      have HN7 := Lib.hid hn7
      have HF3 := Lib.hid (HF2.out.trans hn7.fr)
      have s1 : ∀ m, (convert 26 9 (.slice A7 q c7)).run Tryd.prog (w3.drewN m) = .ok (.string (bs f)) (w3.drewN m) := fun m => run_str (P := Tryd.prog) _ _ _ 5 Tryd.underlying26 Tryd.underlying5 Tryd.underlying9 A7 c7 f q HFL.out.symm ((by have h := hn7.own; rw [HFL.out] at h; exact Rd.of_own h : Rd w3 A7 (cb f)).nofr ((Fr.refl _ _).drewN m))
      have s2 : ∀ m c', (convert 26 9 (.slice (some ⟨b, o, none⟩) q c')).run Tryd.prog (w3.drewN m) = .ok (.string (bs g)) (w3.drewN m) := fun m c' => run_str (P := Tryd.prog) _ _ _ 5 Tryd.underlying26 Tryd.underlying5 Tryd.underlying9 (some ⟨b, o, none⟩) c' g q HG.out.symm ((HRG.out.nofr HF3.out).nofr ((Fr.refl _ _).drewN m))
      have e7 := bs_toList f
      have e8 := bs_toList g
      clear hn7
      by_cases hfg : f = g
      · have HU3 : Hid (u = (d, q, 0)) := by show _ = _; rw [HU2.out, if_pos hfg]
        subst hfg
        go_wp2_with fail
        go_quiet (fail)
        have HF4 := Lib.hid (HF3.out.drewN nq)
        have HB4 := Lib.hid (HB2.out.nofr HF4.out)
        clear s1 s2
        have HE4 : Hid (((w3.drewN nq).alloc (.cells #[] 5)).ownsRow (w3.drewN nq).heap.size 5 1 (.slice (some ⟨(w3.drewN nq).heap.size, 0, none⟩) 0 0) 0 []) := World.ownsRow_made _ #[] 0 (Nat.le_refl _) (by decide) rfl
        generalize w3.drewN nq = w4 at *
        have HDL : Hid ((cb d).length = q - 6) := by show _ = _; rw [cb_length]; have h1 := HD.out; have h2 := HFq.out; omega
        have HDq : Hid (d.length = q - 6) := by show _ = _; have h1 := HD.out; have h2 := HFq.out; omega
        have hqq : (q - 6 : Nat) ≤ 5000 := by have h2 := HFq.out; omega
        first
        | (go_wp2_with (at_builtin; refine wpList_app rfl (.tmp 48) (.tmp 52) 26 rfl w4.heap.size 5 i0 (.int .u8 0) 1 Tryd.underlying26 hi iz0 iz1 iz2 rfl _ _ _ rfl HE4.out (some ⟨b, o + 6, none⟩) (c - 6) (q - 6) (cb d) rfl HDL.out (HB4.out.alloc _) (cb_one _) (fun h => by cases h) (by unfold maxLen; omega) (by omega) ?c5 ?_)
           case c5 => simp)
        | (go_wp2_with (at_builtin; refine wpList_app rfl (.tmp 48) (.tmp 52) 26 rfl w4.heap.size 5 i0 (.int .u8 0) 1 Tryd.underlying26 hi iz0 iz1 iz2 rfl _ _ _ rfl HE4.out (some ⟨b, o, none⟩) 0 (q - 6) (cb d) rfl HDL.out (by rw [HB1.out ‹_›]; exact Rd.none_ _ _) (cb_one _) (fun h => by cases h) (by unfold maxLen; omega) (by omega) ?c5 ?_)
           case c5 => simp)
        intro v5 w5 ho5 hg5 _ hb5
        have HN5 : Hid (New w w5 v5 d) := by
          refine ⟨?_, (HF4.out.alloc (.cells #[] 5)).grown hg5 (fun k hk hlt => by have := HF4.out.size; simp [Value.ownBlock] at hk; omega)⟩
          rw [HDq.out]
          exact own_base (by simpa using ho5) HF4.out.size
        clear ho5 hg5 hb5
        go_wp2_with fail
        go_ret3
        rw [HU3.out]
        exact ⟨_, rfl, HN5.out⟩
      · have HU3 : Hid (u = ([], 0, 33)) := by show _ = _; rw [HU2.out, if_neg hfg]
        have g2 : (f == g) = false := by rw [beq_eq_false_iff_ne]; exact hfg
        have g3 : decide (f = g) = false := by simpa using hfg
        clear hfg
        go_wp2_with fail
        go_quiet (fail)
        go_wp2_with fail
        go_ret3
        rw [HU3.out]
        exact ⟨_, rfl, new_empty w _ (HF3.out.drewN _)⟩
end Go.Proofs.YtanaioaaamjdkaaDoor
