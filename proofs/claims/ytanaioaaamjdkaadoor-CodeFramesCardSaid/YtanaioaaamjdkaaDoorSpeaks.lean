/- The document's two examples hold: speaks answers true in every world whose table holds its sixteen numbers, and leaves all memory that was there as it was. -/
import Derived.Test.YtanaioaaamjdkaaDoorSum
import Derived.Test.YtanaioaaamjdkaaDoorPen2
import Derived.Lib.SlBytesConst
namespace Go.Proofs.YtanaioaaamjdkaaDoor
open Go.RowKit

theorem num300 : num 300 = [172, 2] := by rw [num_ge (by decide), num_lt (by decide)]; rfl

theorem strOf (w : World) (A : Option Addr) (n c : Nat) (l : List UInt8) (hn : n = l.length) (hr : Rd w A (cb l)) :
    (convert 26 9 (.slice A n c)).run Tryd.prog w = .ok (.string ⟨l.toArray⟩) w :=
  run_str w _ _ 5 Tryd.underlying26 Tryd.underlying5 Tryd.underlying9 A c l n hn hr

set_option maxRecDepth 100000 in
set_option maxHeartbeats 400000 in
theorem speaks_any (w : World) (ht : Tab w) : Calls Tryd.prog 12 #[] w fun e w' => e = .returned (.bool true) ∧ Fr NoBlk w w' := by
  have HT := Lib.hid ht
  have HP : Hid (Pen (w.alloc (.cells #[.slice none 0 0] 28)) w.heap.size w.heap.size (.slice none 0 0) []) := ⟨Bk.new _ _ _, World.ownsRow_nil _ _ _ _⟩
  clear ht
  go_enter Tryd.func12, Tryd.ntmps12
  go_wp2_with fail
  refine (num_any _ w.heap.size w.heap.size 300 _ [] HP.out (by simp) (by decide) (by simp)).mono ?_
  rintro e w1 ⟨rfl, v1, hw1⟩
  rw [num300, List.nil_append] at hw1
  have HW := Lib.hid hw1
  clear hw1
  go_wp2_with fail
  refine (data_any w1 w.heap.size w.heap.size v1 _ HW.out.pen (by simp)).mono ?_
  rintro e w2 ⟨v2, rfl, hn⟩
  obtain ⟨A2, c2, rfl, _, _⟩ := own_form hn.own
  have e1 := strOf w2 A2 2 c2 [172, 2] rfl (Rd.of_own hn.own)
  have HN := Lib.hid hn
  clear hn
  have kc := fun (C : Array Value) (n c : Nat) => Lib.run_convert_bytes_const (P := Tryd.prog) w2 26 5 C n c Tryd.underlying26 Tryd.underlying5
  have HE := Lib.hid Crc.example_sum
  have HF : Hid (Fr NoBlk w w2) := (((Fr.refl NoBlk w).alloc _).step HW.out.fr (by
    rintro i hi (rfl | e)
    · omega
    · cases e)).step HN.out.fr (fun _ _ h => h)
  go_wp2_with fail
  refine (sum_any _ (HT.out.fr (HF.out.alloc _) (fun h => h)) [49, 50, 51, 52, 53, 54, 55, 56, 57] _ _ _ rfl (by decide) (Rd.new_marked _ _ _ _)).mono ?_
  rintro e w3 ⟨rfl, rfl⟩
  rw [HE.out]
  go_wp2
  go_ret
  exact ⟨rfl, HF.out.alloc _⟩
end Go.Proofs.YtanaioaaamjdkaaDoor
