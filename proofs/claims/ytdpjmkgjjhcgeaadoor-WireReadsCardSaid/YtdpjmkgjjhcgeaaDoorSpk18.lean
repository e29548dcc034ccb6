/- The document's example of layer 18. Condition: the table holds its numbers. -/
import Derived.Test.YtdpjmkgjjhcgeaaDoorWr
namespace Go.Proofs.YtdpjmkgjjhcgeaaDoor
open Go.RowKit

theorem write_ok (w : World) (ht : Tab w) (m : Mg) (hm : MgIn w m) (hr : rightM m = true) : Calls Tryd.prog 10 #[mgv m] w fun e w' => ∃ v', e = .returned (.tuple #[v', .int .i64 0]) ∧ New w w' v' (msgB m) :=
  (write_any w ht m hm).mono fun _ _ h => by
    unfold WritePost at h
    rwa [if_pos hr] at h
theorem write_bad (w : World) (ht : Tab w) (m : Mg) (hm : MgIn w m) (hr : ¬ rightM m = true) : Calls Tryd.prog 10 #[mgv m] w fun e w' => e = .returned (.tuple #[.slice none 0 0, .int .i64 1]) ∧ Fr NoBlk w w' :=
  (write_any w ht m hm).mono fun _ _ h => by
    unfold WritePost at h
    rwa [if_neg hr] at h

def ex18 : Mg := ⟨7, 0, 0, 0, 0, 0, [], none, 0, []⟩
theorem ex18_in (w : World) : MgIn w ex18 := by
  refine ⟨Rd.none_ _ _, ⟨Nat.le_refl _, Nat.zero_le _, fun _ => rfl⟩, ⟨Nat.zero_le _, fun _ h => by cases h⟩, ⟨by decide, fun _ h => by cases h⟩, ?_, ?_, ?_, ?_, ?_, fun _ h => by cases h⟩
  all_goals (unfold nB ex18; dsimp only; omega)
theorem ex18_right : rightM ex18 = true := by decide
theorem ex18_body : bodyB ex18 = [7, 0, 0, 0, 0, 0, 0, 0] := by
  have h0 : num 0 = [0] := by rw [num_lt (by decide)]; rfl
  have h7 : num 7 = [7] := by rw [num_lt (by decide)]; rfl
  show (num 7 ++ (num 0 ++ (num 0 ++ (num 0 ++ (num 0 ++ []))))) ++ (num 0 ++ ((num 0 ++ []) ++ (num 0 ++ []))) = _
  rw [h0, h7]
  rfl

set_option maxRecDepth 100000 in
theorem speaks_any (w : World) (ht : Tab w) : Calls Tryd.prog 8 #[] w fun e w' => e = .returned (.bool true) ∧ Fr NoBlk w w' := by
  have hk := write_ok w ht ex18 (ex18_in w) ex18_right
  obtain ⟨L, hL⟩ : ∃ L, L = msgB ex18 := ⟨_, rfl⟩
  rw [← hL] at hk
  have HL := Lib.hid hL
  unfold mgv mga ex18 bstr at hk
  dsimp only [List.length_nil] at hk
  have HK := Lib.hid hk
  clear ht hk hL
  go_enter Tryd.func8, Tryd.ntmps8
  go_wp2_with fail
  refine HK.out.mono ?_
  clear HK
  rintro e w1 ⟨v1, rfl, hn1⟩
  obtain ⟨A1, c1, rfl, hc1, hA1⟩ := own_form hn1.own
  have HF := Lib.hid hn1.fr
  have h8 : 8 < L.length ∧ L.length ≤ 18 ∧ L.take 8 = [7, 0, 0, 0, 0, 0, 0, 0] := by
    rw [HL.out]
    unfold msgB
    rw [ex18_body]
    have h1 := num_len (sumN [7, 0, 0, 0, 0, 0, 0, 0]) (by have := sumN_lt [7, 0, 0, 0, 0, 0, 0, 0]; omega)
    have h2 := List.length_pos_iff.2 (num_ne (sumN [7, 0, 0, 0, 0, 0, 0, 0]))
    exact ⟨by simp only [List.length_append, List.length_cons, List.length_nil]; omega, by simp only [List.length_append, List.length_cons, List.length_nil]; omega, by simp⟩
  have hs := strBs w1 A1 8 c1 (L.take 8) (by rw [List.length_take]; omega) (by rw [cb_take]; exact (Rd.of_own hn1.own).take 8)
  rw [h8.2.2] at hs
  obtain ⟨hl1, hl2, _⟩ := h8
  have hq : ((bstr [7, 0, 0, 0, 0, 0, 0, 0]).toList == [7, 0, 0, 0, 0, 0, 0, 0]) = true := by rw [bstr_toList]; rfl
  clear hn1 hA1
  go_wp2_with fail
  go_ret
  exact ⟨rfl, HF.out⟩
end Go.Proofs.YtdpjmkgjjhcgeaaDoor
