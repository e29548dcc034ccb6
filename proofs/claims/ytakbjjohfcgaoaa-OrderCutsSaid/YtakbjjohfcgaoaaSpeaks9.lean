/- The document's example of layer 9. No condition. -/
import Derived.Test.YtakbjjohfcgaoaaSingle
namespace Go.Proofs.Ytakbjjohfcgaoaa
open Go.RowKit

def exM : List Mk := [⟨[], 2, 0⟩, ⟨[], 0, 0⟩, ⟨[], 2, 0⟩]
def exO (A : Option Addr) : Od := ⟨0, 0, 0, 0, ⟨1, none, 0, [], none, 0, [], none, 0, [], 0⟩, A, 3, exM⟩
theorem exHomes : homesOf exM = [0, 2] := by
  refine (homesOf_is (by decide)).unique ⟨by unfold UpI; decide, fun a => ?_⟩
  simp [exM, homesI]
  omega

theorem ex_in {w : World} {g : Nat} {T : TypeId} (h : Bk w g T (mksc exM).toArray) : OdIn w (exO (some ⟨g, 0, none⟩)) := by
  refine ⟨⟨Rd.none_ _ _, Rd.none_ _ _, Rd.none_ _ _, (fun x hx => by cases hx), ⟨(fun x hx => by cases hx), (fun x hx => by cases hx)⟩, ⟨Nat.le_refl _, Nat.zero_le _, fun _ => rfl⟩, ⟨Nat.le_refl _, Nat.zero_le _, fun _ => rfl⟩, ⟨Nat.le_refl _, Nat.zero_le _, fun _ => rfl⟩⟩, Rd.of_cells h, ⟨Nat.le_refl _, by show 3 ≤ maxLen; decide, fun h => by cases h⟩, fun m hm => ?_, by show 0 < two64; decide, by show 0 < two64; decide, fun m hm => ?_⟩
  · simp only [exO, exM, List.mem_cons, List.not_mem_nil, or_false] at hm
    rcases hm with rfl | rfl | rfl <;> exact Nat.zero_le _
  · simp only [exO, exM, List.mem_cons, List.not_mem_nil, or_false] at hm
    rcases hm with rfl | rfl | rfl <;> (show 0 < two64; decide)
theorem exSingle (A : Option Addr) : singleOf (exO A) = false := by
  show (decide ((1 : Int) = 1) && decide ((homesOf exM).length = 1)) = false
  rw [exHomes]
  rfl

set_option maxRecDepth 100000 in
set_option maxHeartbeats 4000000 in
theorem speaks_any (w : World) : Calls Try.prog 7 #[] w fun e w' => e = .returned (.bool true) ∧ Fr NoBlk w w' := by
  obtain ⟨w1, hw1⟩ : ∃ w1, w1 = (w.alloc (.cells (mksc exM).toArray 44)).alloc (.cells (oda (exO (some ⟨w.heap.size, 0, none⟩))) 33) := ⟨_, rfl⟩
  have HF : Hid (Fr NoBlk w w1) := by
    show Fr _ _ _
    rw [hw1]
    exact ((Fr.refl _ _).alloc _).alloc _
  have HB : Hid (Bk w1 w.heap.size 44 (mksc exM).toArray) := by
    show Bk _ _ _ _
    rw [hw1]
    exact (Bk.new w _ _).alloc _
  have HB2 : Hid (Bk w1 (w.heap.size + 1) 33 (oda (exO (some ⟨w.heap.size, 0, none⟩)))) := by
    show Bk _ _ _ _
    rw [hw1]
    exact Bk.new2 w _ _ _
  have K1 := homes_any w1 (exO (some ⟨w.heap.size, 0, none⟩)) (ex_in HB.out) (by show 3 ≤ 1000; omega)
  rw [show homesOf (exO (some ⟨w.heap.size, 0, none⟩)).marks = [0, 2] from exHomes] at K1
  have HK1 := Lib.hid K1
  have HK2 := Lib.hid fun W (hf : Fr NoBlk w1 W) => single_any W (exO (some ⟨w.heap.size, 0, none⟩)) (ex_in (HB.out.fr hf (fun h => h))) (by show 3 ≤ 1000; omega)
  rw [exSingle] at HK2
  have HS := Lib.hid fun W (hf : Fr NoBlk w1 W) => (HB2.out.fr hf (fun h => h)).ord
  have HW := Lib.hid hw1
  clear K1 HB HB2 hw1
  go_enter Try.func7, Try.ntmps7
  go_wp2_with fail
  have hk1 := HK1.out
  rw [HW.out] at hk1
  refine hk1.mono ?_
  clear hk1 HK1
  rintro e w2 ⟨A2, c2, rfl, h2⟩
  rw [← HW.out] at h2
  have HF2 := Lib.hid h2.fr
  obtain ⟨b, o, rfl, hc⟩ := h2.rd (by rw [ic_len]; decide)
  have i0 : w2.cell? ⟨b, o, none⟩ = some (.int .i64 0) := hc 0 _ rfl
  have i1 : w2.cell? ⟨b, o + 1, none⟩ = some (.int .i64 2) := hc 1 _ rfl
  obtain ⟨c0, c1', c2', c3, c4, c5, c6, c7, c8, c9⟩ := HS.out _ h2.fr
  have hll : ([0, 2] : List Int).length = 2 := rfl
  rw [hll]
  have hle : 2 ≤ c2 := h2.le
  clear h2 hc hll HS HW
  have HK3 := Lib.hid (HK2.out _ HF2.out)
  clear HK2
  unfold odv oda exO exM at HK3
  unfold exO exM at c0 c1' c2' c3 c4 c5 c6 c7 c8 c9
  dsimp only at c0 c1' c2' c3 c4 c5 c6 c7 c8 c9 HK3
  go_wp2_with fail
  refine HK3.out.mono ?_
  rintro e w3 ⟨rfl, hf3⟩
  have HF3 := Lib.hid (HF.out.trans (HF2.out.trans hf3))
  clear hf3 HK3
  go_wp2_with fail
  go_ret
  exact ⟨rfl, HF3.out⟩
end Go.Proofs.Ytakbjjohfcgaoaa
