/- The disk's Used: how many bytes all files have. No condition. -/
import Derived.Test.YtafiokabnlmgpaaGreatDoorDisk
import Derived.Lib.Hide
namespace Go.Proofs.YtafiokabnlmgpaaGreatDoor
open Go.RowKit Go.Maps

set_option maxRecDepth 100000 in
set_option maxHeartbeats 1000000 in
theorem used_any (w : World) (B gd : Nat) (m : Dsk) (h : DkIn w B gd m) :
    Calls Tryz.prog 130 #[.pointer (some ⟨gd, 0, none⟩)] w fun e w' => e = .returned (.int .i64 (total m.files)) ∧ Fr NoBlk w w' := by
  have HD := Lib.hid h
  have HM := Lib.hid h.mp
  have c1 : w.cell? ⟨gd, 1, none⟩ = some (.map (some m.bm)) := h.bk.cell 1
  have hgl : gd < w.heap.size := h.bk.lt
  have hmx : total m.files ≤ 1048576 := Nat.le_trans h.fits h.most
  have HN := Lib.hid h.nodup
  clear h
  go_enter Tryz.func130, Tryz.ntmps130
  go_wp2_with (first | (at_range; refine wpList_range_own _ rfl _ 103 rfl 9 106 law Tryz.underlying103 ptE m.bm _ _ rfl HM.out ?_; intro w0 hrg0 hg0 hs0))
  go_frame
  have HF0 : Hid (Fr NoBlk w w0) := ⟨hg0.os, hg0.tape, hg0.output, hg0.size, fun k hk _ => hg0.block k hk (fun e => by cases e)⟩
  have HR0 := Lib.hid hrg0
  clear hrg0 hg0 hs0
  go_loopw [3] (fun s wr => ∃ (left : Lit → Bool) (cnt : Nat), s = .int .i64 (sumL left m.files) ∧ Hid (wr.ranges Tryz.prog 9 ptE m.bm w.heap.size (fsOf m.files).length (mapD (fsOf m.files)) left cnt) ∧ Hid (Fr NoBlk w wr)) (fun _ wr => wr.rangeLeft m.bm w.heap.size)
  case atStart => exact ⟨_, _, by rw [sumL_none fun f hf => has_left HN.out hf]; rfl, HR0, HF0⟩
  case round =>
    obtain ⟨left, cnt, rfl, HR, HF⟩ := hrel
    go_wp2_with (first | (at_next; refine wpList_next_mp _ rfl _ rfl m.bm w.heap.size _ m.files _ _ rfl HR.out ?_ ?_))
    · intro hl0
      have HS : Hid (sumL left m.files = total m.files) := sumL_all hl0
      clear hl0
      go_wp2_with fail
      go_ret
      exact ⟨by rw [HS.out]; rfl, HF.out⟩
    · intro f w1 cnt1 hf hl hrg1 hlt hg1 hs1 hen
      have HF1 : Hid (Fr NoBlk w w1) := HF.out.grown hg1 (fun k hk hlt => by injection hk with hk; omega)
      have HR1 := Lib.hid hrg1
      have hfi := (HD.out.fil f hf).fr HF1.out (fun h => h) (fun _ _ h => h)
      have d0 : w1.cell? ⟨f.blk, 0, none⟩ = some (.slice f.A f.data.length f.cap) := hfi.bk.cell 0
      have HS := Lib.hid (sumL_step HN.out hf hl)
      have hle : sumL (fun z => left z && !z.sameKey (.string f.name)) m.files ≤ total m.files := sumL_le
      rw [HS.out] at hle
      have HLT : Hid (cnt1 < cnt) := hlt
      clear hrg1 hl hf hfi hg1 hs1 hlt
      go_wp2_with fail
      go_roundw
      case rel => exact ⟨_, cnt1, by rw [HS.out]; go_num, HR1, HF1⟩
      case measure => rw [HR1.out.left_eq, HR.out.left_eq]; exact HLT.out
end Go.Proofs.YtafiokabnlmgpaaGreatDoor
