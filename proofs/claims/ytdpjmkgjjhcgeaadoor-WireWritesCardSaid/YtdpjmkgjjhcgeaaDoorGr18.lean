/- The law's measure of a message. No condition but lengths. -/
import Derived.Test.YtdpjmkgjjhcgeaaDoorChk
namespace Go.Proofs.YtdpjmkgjjhcgeaaDoor
open Go.RowKit

structure MSmall (m : Mg) : Prop where
  few : m.votes.length ≤ 2000
  vals : ∀ v ∈ m.votes, v.value.length ≤ 6000
  value : m.value.length ≤ 6000
def MGreatPost (m : Mg) (e : Ending) : Prop := ∃ b, e = .returned (.bool b) ∧ (b = false → MSmall m)

set_option maxRecDepth 100000 in
set_option maxHeartbeats 4000000 in
theorem great_any (w : World) (m : Mg) (hm : MgIn w m) :
    Calls Tryd.prog 9 #[mgv m] w fun e w' => MGreatPost m e ∧ Fr NoBlk w w' := by
  obtain ⟨w1, hw1⟩ : ∃ w1, w1 = w.alloc (.cells (mga m) 26) := ⟨_, rfl⟩
  have HF : Hid (Fr NoBlk w w1) := by
    show Fr _ _ _
    rw [hw1]
    exact (Fr.refl _ _).alloc _
  have HM := Lib.hid (hm.nofr HF.out)
  have hml : m.votes.length ≤ 9223372036854775807 := Nat.le_trans hm.vl.1 hm.vl.2.1
  have hvl : m.value.length ≤ 9223372036854775807 := hm.vals.1
  have e6 : (bstr m.value).size = m.value.length := bstr_size m.value
  have c6 : w1.cell? ⟨w.heap.size, 6, none⟩ = some (.string (bstr m.value)) := by rw [hw1]; exact (Bk.new w _ _).cell 6
  have c7 : w1.cell? ⟨w.heap.size, 7, none⟩ = some (.slice m.va m.votes.length m.vc) := by rw [hw1]; exact (Bk.new w _ _).cell 7
  clear hm
  unfold mgv mga at *
  go_enter Tryd.func9, Tryd.ntmps9
  go_wp2_with fail
  rw [← hw1]
  clear hw1
  try go_wp2_with fail
  go_loop [3, 4] (fun y z => ∃ n k : Nat, k ≤ m.votes.length ∧ y = .int .i64 n ∧ z = .int .i64 k ∧ n ≤ 26010 ∧ 10 * k ≤ n ∧ Hid (∀ j v, j < k → m.votes[j]? = some v → v.value.length ≤ 6000)) (fun _ z => m.votes.length - (intOf z).toNat)
  case atStart => exact ⟨0, 0, by omega, rfl, rfl, by omega, by omega, (fun j v h _ => absurd h (by omega))⟩
  case round =>
    obtain ⟨n, k, hk, rfl, rfl, hn, h10, HL⟩ := hrel
    by_cases hlt : k < m.votes.length
    · obtain ⟨x, hx⟩ : ∃ x, m.votes[k]? = some x := ⟨_, List.getElem?_eq_getElem hlt⟩
      obtain ⟨b, o', hA, x0, x1, x2⟩ := HM.out.votes.vote hx
      have HMM := Lib.hid hx
      have hxl : x.value.length ≤ 9223372036854775807 := HM.out.vals.2 x (List.mem_of_getElem? hx)
      have e4 : (bstr x.value).size = x.value.length := bstr_size x.value
      rw [hA] at c7
      clear hA hx
      by_cases h6 : 6000 < x.value.length
      · go_wp2_with fail
        go_ret
        exact ⟨⟨true, rfl, fun h => by cases h⟩, HF.out⟩
      by_cases h20 : 20000 < n
      · go_wp2_with fail
        go_ret
        exact ⟨⟨true, rfl, fun h => by cases h⟩, HF.out⟩
      · go_wp2_with fail
        go_round
        case rel =>
          refine ⟨n + (x.value.length + 10), k + 1, by omega, by go_num, by go_num, by omega, by omega, fun j v hj hv => ?_⟩
          by_cases e : j = k
          · subst e
            rw [HMM.out] at hv
            injection hv with hv
            subst hv
            omega
          · exact HL.out j v (by omega) hv
        case measure => simp [intOf]; omega
    · by_cases h20 : 20000 < n
      · go_wp2_with fail
        go_ret
        exact ⟨⟨true, rfl, fun h => by cases h⟩, HF.out⟩
      go_wp2_with fail
      go_ret
      refine ⟨⟨(decide (20000 < (n : Int)) || decide (6000 < (m.value.length : Int))), rfl, fun h => ?_⟩, HF.out⟩
      simp only [Bool.or_eq_false_iff, decide_eq_false_iff_not] at h
      refine ⟨by omega, fun v hv => ?_, by omega⟩
      obtain ⟨j, hj, rfl⟩ := List.getElem_of_mem hv
      exact HL.out j _ (by omega) (List.getElem?_eq_getElem hj)
end Go.Proofs.YtdpjmkgjjhcgeaaDoor
