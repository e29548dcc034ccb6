/- The law's example of checkpoints. Condition: the table holds its numbers. -/
import Derived.Test.YtokonhcphhpogaaDoorSave
namespace Go.Proofs.YtokonhcphhpogaaDoor
open Go.RowKit

theorem pk_nil_len : (pk []).length = 7 := by
  unfold pk
  rw [frames_cons, List.length_append, frameOf_len, chunks_nil, List.length_nil, num_lt (by decide)]
  rfl
set_option maxRecDepth 100000 in
theorem speaks_any (w : World) (ht : Tab w) : Calls Tryd.prog 8 #[] w fun e w' => e = .returned (.bool true) ∧ Fr NoBlk w w' := by
  have hp : Calls Tryd.prog 9 #[.slice none 0 0] w fun e w' => ∃ v', e = .returned v' ∧ New w w' v' (pk []) := pack_any w ht none 0 [] ⟨Rd.none_ _ _, fun _ => rfl⟩ (Nat.le_refl _) (by simp)
  have HP := Lib.hid hp
  have HT := Lib.hid ht
  clear hp ht
  go_enter Tryd.func8, Tryd.ntmps8
  go_wp2_with fail
  refine HP.out.mono ?_
  clear HP
  rintro e w1 ⟨v1, rfl, hn1⟩
  obtain ⟨A1, c1, rfl, hc1, hA1⟩ := own_form hn1.own
  have hu := unpack_any w1 (HT.out.fr hn1.fr fun h => h) A1 c1 (pk []) ⟨Rd.of_own hn1.own, hA1⟩ hc1 (by rw [pk_nil_len]; omega)
  rw [pk_nil_len] at hu ⊢
  rw [unpk_pk [] (by simp)] at hu
  have HU := Lib.hid hu
  have HF := Lib.hid hn1.fr
  clear hu hn1 hc1 hA1
  go_wp2_with fail
  refine HU.out.mono ?_
  clear HU
  rintro e w2 ⟨v2, rfl, hn2⟩
  obtain ⟨A2, c2, rfl, _, _⟩ := own_form hn2.own
  have HF2 := Lib.hid (HF.out.trans hn2.fr)
  clear hn2
  dsimp only [List.length_nil]
  go_wp2_with fail
  go_ret
  exact ⟨rfl, HF2.out⟩
end Go.Proofs.YtokonhcphhpogaaDoor
