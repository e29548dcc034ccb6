/- The document's example. No condition. -/
import Derived.Test.YtnmemdhajjibgaaAt
import Derived.Lib.SlBytesConst
namespace Go.Proofs.Ytnmemdhajjibgaa
open Go.RowKit Go.Maps

def pS1 : PD := ⟨100, -1, false, [⟨[97], [49, 50, 51], 0⟩]⟩
def pS2 : PD := ⟨100, -1, false, [⟨[97], [49, 50, 51], 3⟩]⟩
def pS3 : PD := ⟨100, -1, false, [⟨[97], [49, 50, 51, 52, 53], 3⟩]⟩
theorem eS1 : pAppend (pNew 100) [97] [49, 50, 51] = (pS1, 0) := by rfl
theorem eS2 : pSync pS1 [97] = (pS2, 0) := by rfl
theorem eS3 : pAppend pS2 [97] [52, 53] = (pS3, 0) := by rfl
def wants : List Bs := [[49, 50, 51], [49, 50, 51, 52], [49, 50, 51, 52, 53], [49, 50, 51]]
theorem eS4 : ∀ k : Nat, k < 4 → (pRead (pCrash pS3 [(k : Int)]) [97]) = (wants.getD k [], 0) := by
  intro k hk
  match k, hk with
  | 0, _ => rfl
  | 1, _ => rfl
  | 2, _ => rfl
  | 3, _ => rfl
  | k + 4, h => exact absurd h (by omega)
theorem strBs (w : World) (A : Option Addr) (n c : Nat) (l : List UInt8) (hn : n = l.length) (hr : Rd w A (cb l)) :
    (convert 31 9 (.slice A n c)).run Try.prog w = .ok (.string (bstr l)) w :=
  run_str w _ _ 5 Try.underlying31 Try.underlying5 Try.underlying9 A c l n hn hr

set_option maxRecDepth 100000 in
set_option maxHeartbeats 2000000 in
theorem speaks_any (w : World) : Calls Try.prog 10 #[] w fun e w' => e = .returned (.bool true) ∧ Fr NoBlk w w' := by
  have ha : ([97] : Bs).length ≤ maxLen := by unfold maxLen; simp
  have HAL := Lib.hid ha
  clear ha
  go_enter Try.func10, Try.ntmps10
  go_wp2_with fail
  refine (new_at w w (Fr.refl _ _) 100 (by omega) (by omega)).mono ?_
  rintro e w1 ⟨gd, rfl, h1, hf1⟩
  have H1 := Lib.hid h1
  have HF1 := Lib.hid hf1
  clear h1 hf1
  have kc := fun (C : Array Value) (n c : Nat) => Lib.run_convert_bytes_const (P := Try.prog) w1 31 5 C n c Try.underlying31 Try.underlying5
  have q1 := append_at (H1.out.nofr ((Fr.refl NoBlk w1).alloc (.cells #[.int .u8 49, .int .u8 50, .int .u8 51] 5 (3, 4)))) [97] HAL.out (some ⟨w1.heap.size, 0, none⟩) 3 3 [49, 50, 51] rfl (Rd.new_marked _ _ _ _) (fun h => by cases h) (by unfold maxLen; simp)
  rw [eS1] at q1
  have HQ := Lib.hid q1
  clear q1
  go_wp2_with fail
  refine HQ.out.mono ?_
  rintro e w2 ⟨rfl, h2, _⟩
  have H2 := Lib.hid h2
  have HQ := Lib.hid (sync_at h2 [97] HAL.out)
  rw [eS2] at HQ
  clear h2 kc
  go_wp2_with fail
  refine HQ.out.mono ?_
  rintro e w3 ⟨rfl, h3, _⟩
  have H3 := Lib.hid h3
  have kc := fun (C : Array Value) (n c : Nat) => Lib.run_convert_bytes_const (P := Try.prog) w3 31 5 C n c Try.underlying31 Try.underlying5
  have q1 := append_at (h3.nofr ((Fr.refl NoBlk w3).alloc (.cells #[.int .u8 52, .int .u8 53] 5 (2, 3)))) [97] HAL.out (some ⟨w3.heap.size, 0, none⟩) 2 2 [52, 53] rfl (Rd.new_marked _ _ _ _) (fun h => by cases h) (by unfold maxLen; simp)
  rw [eS3] at q1
  have HQ := Lib.hid q1
  clear h3 q1 H2 H1 HF1
  go_wp2_with fail
  refine HQ.out.mono ?_
  rintro e w4 ⟨rfl, h4, _⟩
  have H4 := Lib.hid h4
  clear h4 kc H3
  have HF4 : Hid (Fr NoBlk w4 (w4.alloc (.cells (sts wants).toArray 57))) := (Fr.refl _ _).alloc _
  have HB4 : Hid (Bk (w4.alloc (.cells (sts wants).toArray 57)) w4.heap.size 57 (sts wants).toArray) := Bk.new _ _ _
  have H5 := Lib.hid (H4.out.nofr HF4.out)
  clear HF4 H4
  go_wp2_with fail
  go_loopw [29] (fun z wr => ∃ k : Nat, k ≤ 4 ∧ z = .int .i64 k ∧ Hid (At w wr w.heap.size gd pS3) ∧ Hid (Bk wr w4.heap.size 57 (sts wants).toArray)) (fun z _ => 4 - (intOf z).toNat)
  case atStart => exact ⟨0, by omega, rfl, H5, HB4⟩
  case round =>
    clear H5 HB4
    obtain ⟨k, hk4, rfl, H5, HB⟩ := hrel
    by_cases hk : k < 4
    · have HF6 : Hid (Fr NoBlk wr (wr.alloc (.cells #[.int .i64 k] 3))) := (Fr.refl _ _).alloc _
      have HK := Lib.hid (crash_at (H5.out.nofr HF6.out) (some ⟨wr.heap.size, 0, none⟩) 1 1 [(k : Int)] rfl (Rd.of_cells (Bk.new _ _ _)) (by unfold maxLen; simp))
      have HE := Lib.hid (eS4 k hk)
      have hw : (sts wants).toArray[k]? = some (.string (bstr (wants.getD k []))) := by
        rw [List.getElem?_toArray]
        exact sts_get wants k hk
      have k0 : (0 : Int) ≤ (k : Int) := by omega
      have k1 : (k : Int) < 4 := by omega
      have HW := Lib.hid hw
      clear hw
      go_wp2_with fail
      refine HK.out.mono ?_
      rintro e w7 ⟨g7, rfl, h7, hf7⟩
      have HF7 := Lib.hid (HF6.out.trans hf7)
      have hq := read_at h7 [97] HAL.out
      rw [HE.out] at hq
      have HR := Lib.hid hq
      clear h7 hf7 hq HK
      generalize wants.getD k [] = wk at HR HW
      go_wp2_with fail
      refine HR.out.mono ?_
      rintro e w8 ⟨A8, c8, rfl, hg⟩
      have HF8 := Lib.hid (HF7.out.trans hg.got.fr)
      have s1 : ∀ q, (convert 31 9 (.slice A8 wk.length c8)).run Try.prog (w8.drewN q) = .ok (.string (bstr wk)) (w8.drewN q) := fun q => strBs _ A8 _ c8 wk rfl (hg.got.rd.nofr ((Fr.refl _ _).drewN q))
      have HB8 := Lib.hid (HB.out.fr HF8.out (fun h => h))
      have HC8 : w8.cell? ⟨w4.heap.size, k, none⟩ = some (.string (bstr wk)) := (HB8.out.cell k).trans HW.out
      have H8 := Lib.hid (H5.out.nofr HF8.out)
      have e3 := bstr_toList wk
      clear hg HR HF6 HF7
      generalize wk.length = n8 at *
      go_wp2_with fail
      go_quiet (fail)
      have HF9 := Lib.hid ((Fr.refl NoBlk w8).drewN nq)
      have H9 := Lib.hid (H8.out.nofr HF9.out)
      have HB9 := Lib.hid (HB8.out.fr HF9.out (fun h => h))
      clear HC8 s1
      go_wp2_with fail
      go_roundw
      case rel => exact ⟨k + 1, by omega, by go_num, H9, HB9⟩
      case measure => simp [intOf]; omega
    · go_wp2_with fail
      go_ret
      exact ⟨rfl, H5.out.fr⟩
end Go.Proofs.Ytnmemdhajjibgaa
