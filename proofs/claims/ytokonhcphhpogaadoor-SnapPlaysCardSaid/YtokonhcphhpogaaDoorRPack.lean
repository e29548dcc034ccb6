/- The document's Pack. Conditions: lengths. -/
import Derived.Test.YtokonhcphhpogaaDoorDAll
import Derived.Test.YtokonhcphhpogaaDoorRefP
namespace Go.Proofs.YtokonhcphhpogaaDoor
open Go.RowKit

/-- between two parts. -/
structure RPk (w wr : World) (l : Bs) (k : Nat) (v : Value) : Prop where
  own : wr.ownsRow w.heap.size 5 1 v (frames (num l.length :: chunks (l.take k))).length (cb (frames (num l.length :: chunks (l.take k))))
  fr : Fr NoBlk w wr
theorem RPk.next {w wr w1 w2 : World} {l : Bs} {k nb : Nat} {v v' : Value} (h : RPk w wr l k v) (hk : k < l.length) (hm : k % 1024 = 0) (hf : Fr NoBlk wr w1) (hnb : nb = (frames (num l.length :: chunks (l.take k))).length) (ho : w2.ownsRow w.heap.size 5 1 v' (nb + (frameOf ((l.drop k).take 1024)).length) (cb (frames (num l.length :: chunks (l.take k))) ++ cb (frameOf ((l.drop k).take 1024)))) (hg : w1.grownBy w2 v.ownBlock) : RPk w w2 l (k + 1024) v' := by
  have e : frames (num l.length :: chunks (l.take (k + 1024))) = frames (num l.length :: chunks (l.take k)) ++ frameOf ((l.drop k).take 1024) := by
    rw [← chunks_take l k hk hm, ← List.cons_append, frames_append, frames_one]
  refine ⟨?_, (h.fr.trans hf).grown hg fun q hq hlt => ?_⟩
  · rw [e, List.length_append, cb_append, ← hnb]
    exact ho
  · have := (h.own.lt q hq).1; omega

set_option maxRecDepth 100000 in
set_option maxHeartbeats 4000000 in
theorem rpack_any (w : World) (A : Option Addr) (c : Nat) (l : Bs) (hr : Part w (A, c, l)) (hc : l.length ≤ c) (hl : l.length ≤ 100000) :
    Calls Tryd.prog 12 #[.slice A l.length c] w fun e w' => ∃ v', e = .returned v' ∧ New w w' v' (pk l) := by
  obtain ⟨i0, hi, hz0, hz1, hz2⟩ := info_parts byteInfo
  have HR := Lib.hid hr
  have HN := Lib.hid (refnum_any w l.length (by omega))
  obtain ⟨T, hT⟩ : ∃ T, T = l.length := ⟨_, rfl⟩
  have HTL := Lib.hid hT
  rw [← hT] at HN hc hl ⊢
  clear hr hT
  go_enter Tryd.func12, Tryd.ntmps12
  go_wp2_with fail
  refine HN.out.mono ?_
  clear HN
  rintro e w1 ⟨v1, rfl, hn1⟩
  obtain ⟨A1, c1, rfl, hc1, hA1⟩ := own_form hn1.own
  have HF := Lib.hid (dframe_any w1 A1 (num T).length c1 (num T) rfl (Rd.of_own hn1.own) hA1 (by have := num_len T (by omega); omega))
  have HF1 := Lib.hid hn1.fr
  clear hn1 hc1 hA1
  generalize (num T).length = nl at *
  go_wp2_with fail
  refine HF.out.mono ?_
  clear HF
  rintro e w2 ⟨v2, rfl, hn2⟩
  have HK0 : Hid (RPk w w2 l 0 v2) := ⟨by
    rw [List.take_zero, chunks_nil, frames_one, ← HTL.out]
    exact own_base hn2.own HF1.out.size, HF1.out.trans hn2.fr⟩
  clear hn2 HF1
  go_wp2_with fail
  go_loopw [3, 5] (fun v z wr => ∃ k : Nat, k ≤ T + 1023 ∧ z = .int .i64 k ∧ Hid (RPk w wr l k v ∧ k % 1024 = 0)) (fun _ z _ => T + 1024 - (intOf z).toNat)
  case atStart => exact ⟨0, by omega, rfl, HK0, rfl⟩
  case round =>
    clear HK0
    obtain ⟨k, hk, rfl, HX⟩ := hrel
    obtain ⟨Av, cv, hv, _, _⟩ := own_form HX.out.1.own
    subst hv
    obtain ⟨nb, hnb⟩ : ∃ nb, nb = (frames (num l.length :: chunks (l.take k))).length := ⟨_, rfl⟩
    rw [← hnb]
    have HNB := Lib.hid hnb
    have hnbl : nb ≤ 1000000 := by
      rw [hnb, frames_cons, List.length_append, frameOf_len]
      have h1 := chunks_frames_len (l.take k)
      have h2 := num_len l.length (by have := HTL.out; omega)
      rw [List.length_take] at h1
      have := HTL.out
      omega
    clear hnb
    by_cases hlt : k < T
    · have HRW := Lib.hid (HR.out.1.nofr HX.out.1.fr)
      obtain ⟨b, o, rfl, _⟩ := HR.out.1 (by rw [cb_length]; show 0 < l.length; rw [← HTL.out]; omega)
      obtain ⟨m, hm⟩ : ∃ m, m = min 1024 (T - k) := ⟨_, rfl⟩
      have hml : ((l.drop k).take 1024).length = m := by rw [List.length_take, List.length_drop, ← HTL.out, hm]
      have hm0 : 0 < m ∧ m ≤ 1024 ∧ k + m ≤ T := by omega
      have HRD : Hid (Rd wr (some ⟨b, o + k, none⟩) (cb ((l.drop k).take 1024))) := by
        intro hx
        obtain ⟨b', o', e, hcell⟩ := HRW.out (by rw [cb_length]; show 0 < l.length; rw [← HTL.out]; omega)
        injection e with e
        injection e with ea eb
        subst ea eb
        refine ⟨b, o + k, rfl, fun j v hv => ?_⟩
        rw [cb_take, cb_drop, List.getElem?_take] at hv
        split at hv
        · rw [List.getElem?_drop] at hv
          rw [Nat.add_assoc]
          exact hcell _ _ hv
        · cases hv
      have HFR := Lib.hid (dframe_any wr (some ⟨b, o + k, none⟩) m (c - k) ((l.drop k).take 1024) hml.symm HRD.out (fun h => by cases h) (by omega))
      have HML := Lib.hid hml
      have HMM := Lib.hid hm
      have f2 : (k : Int) + (m : Int) ≤ (c : Int) := by omega
      have f3 : (T : Int) ≤ (c : Int) := by omega
      clear hm hml
      by_cases hbig : T < k + 1024
      · have em : T - k = m := by have := HMM.out; omega
        go_wp2_with fail
        with_reducible refine HFR.out.mono ?_
        clear HFR
        rintro e w3 ⟨v3, rfl, hn3⟩
        obtain ⟨A3, c3, rfl, hc3, hA3⟩ := own_form hn3.own
        have HOV : Hid (w3.ownsRow w.heap.size 5 1 (.slice Av nb cv) nb (cb (frames (num l.length :: chunks (l.take k))))) := by
          have h := own_fr HX.out.1.own hn3.fr fun _ _ h => h
          rw [← HNB.out] at h
          exact h
        have HR3 := Lib.hid (Rd.of_own hn3.own)
        have HF3 := Lib.hid hn3.fr
        have HA3 := Lib.hid hA3
        have HSZ : Hid (w.heap.size ≤ w3.heap.size) := (HX.out.1.fr.trans hn3.fr).size
        have hfl : (frameOf ((l.drop k).take 1024)).length ≤ 2000 := by rw [frameOf_len, HML.out]; omega
        clear hn3 hc3 hA3
        go_wp2_with (at_builtin; refine wpList_app rfl _ _ 22 rfl w.heap.size 5 i0 (.int .u8 0) 1 Tryd.underlying22 hi hz0 hz1 hz2 rfl (.slice Av nb cv) nb (cb (frames (num l.length :: chunks (l.take k)))) rfl HOV.out A3 c3 (frameOf ((l.drop k).take 1024)).length (cb (frameOf ((l.drop k).take 1024))) rfl (cb_length _) HR3.out (cb_one _) HA3.out (by unfold maxLen; omega) (by omega) HSZ.out ?_)
        intro v4 w4 ho4 hg4 _ _
        have HNX := Lib.hid (RPk.next (w := w) (wr := wr) (k := k) (v := .slice Av nb cv) (by rw [HNB.out]; exact HX.out.1) (by rw [← HTL.out]; exact hlt) HX.out.2 HF3.out HNB.out ho4 hg4)
        clear ho4 hg4
        go_wp2_with fail
        go_roundw
        case rel => exact ⟨k + 1024, by omega, by go_num, HNX.out, by have := HX.out.2; omega⟩
        case measure => simp [intOf]; omega
      · have em : k + 1024 - k = m := by have := HMM.out; omega
        go_wp2_with fail
        with_reducible refine HFR.out.mono ?_
        clear HFR
        rintro e w3 ⟨v3, rfl, hn3⟩
        obtain ⟨A3, c3, rfl, hc3, hA3⟩ := own_form hn3.own
        have HOV : Hid (w3.ownsRow w.heap.size 5 1 (.slice Av nb cv) nb (cb (frames (num l.length :: chunks (l.take k))))) := by
          have h := own_fr HX.out.1.own hn3.fr fun _ _ h => h
          rw [← HNB.out] at h
          exact h
        have HR3 := Lib.hid (Rd.of_own hn3.own)
        have HF3 := Lib.hid hn3.fr
        have HA3 := Lib.hid hA3
        have HSZ : Hid (w.heap.size ≤ w3.heap.size) := (HX.out.1.fr.trans hn3.fr).size
        have hfl : (frameOf ((l.drop k).take 1024)).length ≤ 2000 := by rw [frameOf_len, HML.out]; omega
        clear hn3 hc3 hA3
        go_wp2_with (at_builtin; refine wpList_app rfl _ _ 22 rfl w.heap.size 5 i0 (.int .u8 0) 1 Tryd.underlying22 hi hz0 hz1 hz2 rfl (.slice Av nb cv) nb (cb (frames (num l.length :: chunks (l.take k)))) rfl HOV.out A3 c3 (frameOf ((l.drop k).take 1024)).length (cb (frameOf ((l.drop k).take 1024))) rfl (cb_length _) HR3.out (cb_one _) HA3.out (by unfold maxLen; omega) (by omega) HSZ.out ?_)
        intro v4 w4 ho4 hg4 _ _
        have HNX := Lib.hid (RPk.next (w := w) (wr := wr) (k := k) (v := .slice Av nb cv) (by rw [HNB.out]; exact HX.out.1) (by rw [← HTL.out]; exact hlt) HX.out.2 HF3.out HNB.out ho4 hg4)
        clear ho4 hg4
        go_wp2_with fail
        go_roundw
        case rel => exact ⟨k + 1024, by omega, by go_num, HNX.out, by have := HX.out.2; omega⟩
        case measure => simp [intOf]; omega
    · have HZ : Hid (∃ v', Ending.returned (.slice Av nb cv) = .returned v' ∧ New w wr v' (pk l)) := by
        refine ⟨_, rfl, ?_, HX.out.1.fr⟩
        have e2 : frames (num l.length :: chunks (l.take k)) = pk l := by
          rw [List.take_of_length_le (show l.length ≤ k by rw [← HTL.out]; omega)]
          rfl
        have e : nb = (pk l).length := by rw [HNB.out, e2]
        have h := HX.out.1.own
        rw [← HNB.out, e2] at h
        rw [← e]
        exact h
      go_wp2_with fail
      go_ret
      exact HZ.out
end Go.Proofs.YtokonhcphhpogaaDoor
