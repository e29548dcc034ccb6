/- two of layer 15: an order of two marks. Conditions: its number is one of type uint64. -/
import Derived.Test.YtdgjjkmgdjiliaaOCopy
namespace Go.Proofs.Ytdgjjkmgdjiliaa
open Go.RowKit

def twM (a b : Int) : List Mk := [⟨[], a, 0⟩, ⟨[], b, 0⟩]
def twO (g : Nat) (sq : Nat) (a b : Int) : Od := ⟨0, 0, sq, 0, ⟨1, none, 0, [], none, 0, [], none, 0, [], 0⟩, some ⟨g, 0, none⟩, 2, twM a b⟩
theorem tw_in {w : World} {g sq : Nat} {a b : Int} {T : TypeId} (h : Bk w g T (mksc (twM a b)).toArray) (hq : sq < two64) : OdIn w (twO g sq a b) := by
  refine ⟨⟨Rd.none_ _ _, Rd.none_ _ _, Rd.none_ _ _, (fun x hx => by cases hx), ⟨(fun x hx => by cases hx), (fun x hx => by cases hx)⟩, ⟨Nat.le_refl _, Nat.zero_le _, fun _ => rfl⟩, ⟨Nat.le_refl _, Nat.zero_le _, fun _ => rfl⟩, ⟨Nat.le_refl _, Nat.zero_le _, fun _ => rfl⟩⟩, Rd.of_cells h, ⟨Nat.le_refl _, by show 2 ≤ maxLen; decide, fun h => by cases h⟩, fun m hm => ?_, by show 0 < two64; decide, hq, fun m hm => ?_⟩
  · simp only [twO, twM, List.mem_cons, List.not_mem_nil, or_false] at hm
    rcases hm with rfl | rfl <;> exact Nat.zero_le _
  · simp only [twO, twM, List.mem_cons, List.not_mem_nil, or_false] at hm
    rcases hm with rfl | rfl <;> (show 0 < two64; decide)
set_option maxRecDepth 100000 in
set_option maxHeartbeats 2000000 in
theorem two_any (w : World) (sq : Nat) (a b : Int) :
    Calls Try.prog 50 #[.int .u64 (sq : Int), .int .i64 a, .int .i64 b] w fun e w' => e = .returned (odv (twO (w.heap.size + 1) sq a b)) ∧ Bk w' (w.heap.size + 1) 63 (mksc (twM a b)).toArray ∧ Fr NoBlk w w' := by
  obtain ⟨w1, hw1⟩ : ∃ w1, w1 = (w.alloc (.cells (oda (twO (w.heap.size + 1) sq a b)) 38)).alloc (.cells (mksc (twM a b)).toArray 63) := ⟨_, rfl⟩
  have HF : Hid (Fr NoBlk w w1) := by
    show Fr _ _ _
    rw [hw1]
    exact ((Fr.refl _ _).alloc _).alloc _
  have HB : Hid (Bk w1 w.heap.size 38 (oda (twO (w.heap.size + 1) sq a b))) := by
    show Bk _ _ _ _
    rw [hw1]
    exact (Bk.new w _ _).alloc _
  have HB2 : Hid (Bk w1 (w.heap.size + 1) 63 (mksc (twM a b)).toArray) := by
    show Bk _ _ _ _
    rw [hw1]
    exact Bk.new2 w _ _ _
  have HW1 := Lib.hid hw1
  clear hw1
  go_enter Try.func50, Try.ntmps50
  go_wp2_with fail
  change bodyPost _ _ _ Exit.ret _ ((w.alloc (.cells (oda (twO (w.heap.size + 1) sq a b)) 38)).alloc (.cells (mksc (twM a b)).toArray 63))
  rw [← HW1.out]
  have z0 : w1.cell? ⟨w.heap.size, 0, none⟩ = some (.int .i64 0) := HB.out.cell 0
  have z1 : w1.cell? ⟨w.heap.size, 1, none⟩ = some (.int .u64 0) := HB.out.cell 1
  have z2 : w1.cell? ⟨w.heap.size, 2, none⟩ = some (.int .u64 (sq : Int)) := HB.out.cell 2
  have z3 : w1.cell? ⟨w.heap.size, 3, none⟩ = some (.int .i64 0) := HB.out.cell 3
  have z4 : w1.cell? ⟨w.heap.size, 4, none⟩ = some (.int .i64 1) := HB.out.cell 4
  have z5 : w1.cell? ⟨w.heap.size, 5, none⟩ = some (.slice none 0 0) := HB.out.cell 5
  have z6 : w1.cell? ⟨w.heap.size, 6, none⟩ = some (.slice none 0 0) := HB.out.cell 6
  have z7 : w1.cell? ⟨w.heap.size, 7, none⟩ = some (.slice none 0 0) := HB.out.cell 7
  have z8 : w1.cell? ⟨w.heap.size, 8, none⟩ = some (.int .i64 0) := HB.out.cell 8
  have z9 : w1.cell? ⟨w.heap.size, 9, none⟩ = some (.slice (some ⟨w.heap.size + 1, 0, none⟩) 2 2) := HB.out.cell 9
  refine bodyPost_ret (v := odv (twO (w.heap.size + 1) sq a b)) ?_ rfl ⟨rfl, HB2.out, HF.out⟩
  unfold odv oda twO twM
  simp [results, Try.results50, go_sem, z0, z1, z2, z3, z4, z5, z6, z7, z8, z9]
end Go.Proofs.Ytdgjjkmgdjiliaa
