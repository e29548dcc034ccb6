/- The document's Part of layer 15. Conditions: few marks. -/
import Derived.Test.YtdgjjkmgdjiliaaPrt
namespace Go.Proofs.Ytdgjjkmgdjiliaa
open Go.RowKit

set_option maxRecDepth 100000 in
set_option maxHeartbeats 2000000 in
theorem dpart_any (w : World) (o : Od) (ho : OdIn w o) (hm : o.marks.length ≤ 1000) (rg : Int) :
    Calls Try.prog 33 #[odv o, .int .i64 rg] w fun e w' => ∃ A' c', e = .returned (.slice A' (prt rg o.marks o.marks.length).length c') ∧ w'.ownsRow w.heap.size 63 3 (.slice A' (prt rg o.marks o.marks.length).length c') (prt rg o.marks o.marks.length).length (mksc (prt rg o.marks o.marks.length)) ∧ Fr NoBlk w w' := by
  obtain ⟨i0, hi, hz0, hz1, hz2⟩ := info_partsR markInfo
  obtain ⟨q, hq⟩ : ∃ q, q = w.heap.size := ⟨_, rfl⟩
  obtain ⟨w1, hw1⟩ : ∃ w1, w1 = w.alloc (.cells (oda o) 38) := ⟨_, rfl⟩
  have HF1 : Hid (Fr NoBlk w w1) := by show Fr _ _ _; rw [hw1]; exact (Fr.refl _ _).alloc _
  have HB1 : Hid (Bk w1 q 38 (oda o)) := by show Bk _ _ _ _; rw [hw1, hq]; exact Bk.new _ _ _
  have HR := Lib.hid (ho.marks.nofr HF1.out)
  have HMM := Lib.hid hm
  have HW1 := Lib.hid hw1
  have HQ := Lib.hid hq
  have c9 : w1.cell? ⟨q, 9, none⟩ = some (.slice o.ma o.marks.length o.mc) := HB1.out.cell 9
  obtain ⟨wi, hwi⟩ : ∃ wi, wi = w1.alloc (.cells #[] 63) := ⟨_, rfl⟩
  have HFI : Hid (Fr NoBlk w1 wi) := by show Fr _ _ _; rw [hwi]; exact (Fr.refl _ _).alloc _
  have HO0 : Hid (wi.ownsRow w1.heap.size 63 3 (.slice (some ⟨w1.heap.size, 0, none⟩) 0 0) 0 []) := own_litW 3 (by rw [hwi]; exact Bk.new _ _ _) (Nat.le_refl _)
  have hsz1 : w1.heap.size = q + 1 := by rw [hw1, World.size_alloc, hq]
  have HWI := Lib.hid hwi
  rw [hsz1] at HO0
  have HS1 := Lib.hid hsz1
  clear ho hw1 hq hwi hsz1
  unfold oda at HW1
  unfold odv oda
  go_enter Try.func33, Try.ntmps33
  go_wp2_with fail
  rw [← HW1.out, ← HQ.out]
  rw [← HWI.out]
  go_loopw [5, 6] (fun out z wr => ∃ (k m : Nat) (A' : Option Addr) (c' : Nat), k ≤ o.marks.length ∧ out = .slice A' m c' ∧ z = .int .i64 k ∧ Hid (m = (prt rg o.marks k).length) ∧ Hid (Fr NoBlk w1 wr ∧ wr.ownsRow (q + 1) 63 3 (.slice A' m c') m (mksc (prt rg o.marks k)))) (fun _ z _ => o.marks.length - (intOf z).toNat)
  case atStart => exact ⟨0, 0, _, _, Nat.zero_le _, rfl, rfl, rfl, HFI.out, HO0.out⟩
  case round =>
    obtain ⟨k, m, A', c', hk, rfl, rfl, HM, HX⟩ := hrel
    by_cases hlt : k < o.marks.length
    · obtain ⟨x, hx⟩ : ∃ x, o.marks[k]? = some x := ⟨_, List.getElem?_eq_getElem hlt⟩
      obtain ⟨b0, o0, hA, d0, d1, d2⟩ := (HR.out.nofr HX.out.1).mark hx
      have i1 : (0 : Int) ≤ (k : Int) := by omega
      have i2 : (k : Int) < (o.marks.length : Int) := by omega
      have c9 : wr.cell? ⟨q, 9, none⟩ = some (.slice o.ma o.marks.length o.mc) := (HB1.out.fr HX.out.1 fun e => e).cell 9
      have HMK : Hid (m ≤ 1000) := by show _ ≤ _; have := prt_len rg o.marks k; have := HM.out; have := HMM.out; omega
      rw [hA] at c9
      unfold st at *
      clear hA
      by_cases hh : x.home = rg
      · have h1 : (x.home == rg) = true := beq_iff_eq.2 hh
        have HNX := Lib.hid (prt_yes hx hh)
        have HO6 : Hid ((wr.alloc (.cells #[st x.key, .int .i64 x.home, .int .u64 (x.count : Int)] 63)).ownsRow (q + 1) 63 3 (.slice A' m c') m (mksc (prt rg o.marks k))) := own_fr HX.out.2 ((Fr.refl NoBlk _).alloc _) fun _ _ h => h
        have HF6 : Hid (Fr NoBlk w1 (wr.alloc (.cells #[st x.key, .int .i64 x.home, .int .u64 (x.count : Int)] 63))) := HX.out.1.alloc _
        have HS6 : Hid (Rd (wr.alloc (.cells #[st x.key, .int .i64 x.home, .int .u64 (x.count : Int)] 63)) (some ⟨wr.heap.size, 0, none⟩) [st x.key, .int .i64 x.home, .int .u64 (x.count : Int)]) := Rd.of_cells (Bk.new wr 63 #[st x.key, .int .i64 x.home, .int .u64 (x.count : Int)])
        have HIN : Hid (mksc (prt rg o.marks (k + 1)) = mksc (prt rg o.marks k) ++ [st x.key, .int .i64 x.home, .int .u64 (x.count : Int)]) := by show _ = _; rw [HNX.out, mksc_append]; rfl
        have HMN : Hid (m + 1 = (prt rg o.marks (k + 1)).length) := by show _ = _; rw [HNX.out, List.length_append, ← HM.out]; rfl
        have HON : Hid (∀ u ∈ ([st x.key, .int .i64 x.home, .int .u64 (x.count : Int)] : List Value), u.oneCell' = true) := mksc_one [x]
        have HSZ : Hid (q + 1 ≤ (wr.alloc (.cells #[st x.key, .int .i64 x.home, .int .u64 (x.count : Int)] 63)).heap.size) := by show _ ≤ _; have := HF6.out.size; have := HS1.out; omega
        unfold st at HO6 HS6 HIN HON HSZ HF6
        clear HNX hh hx
        go_wp2_with (first | (at_builtin; go_loud (refine wpList_appW rfl _ _ 36 rfl (q + 1) 63 i0 _ 3 32 Try.underlying36 hi hz0 hz1 hz2 rfl (by decide) (.slice A' m c') m (mksc (prt rg o.marks k)) rfl HO6.out (some ⟨wr.heap.size, 0, none⟩) 1 1 [.string (bstr x.key), .int .i64 x.home, .int .u64 (x.count : Int)] rfl rfl HS6.out HON.out (fun h => by cases h) (by unfold maxLen; have := HMK.out; omega) (by have := HMK.out; omega) HSZ.out ?_); intro v7 w7 ho7 hg7 hb7; rw [← HIN.out] at ho7; obtain ⟨A7, c7, rfl, hc7, hA7⟩ := own_form ho7; have HO7 := Lib.hid ho7; have HF7 := Lib.hid (HF6.out.grown hg7 fun j hj hl => by have := (HO6.out.lt j hj).1; have := HS1.out; omega); clear ho7 hg7 hb7 hA7) | fail)
        go_roundw
        case rel => exact ⟨k + 1, m + 1, A7, c7, by omega, rfl, by go_num, HMN, HF7.out, HO7.out⟩
        case measure => simp [intOf]; omega
      · have h1 : (x.home == rg) = false := beq_eq_false_iff_ne.2 hh
        have HNX := Lib.hid (prt_no hx hh)
        clear hh hx
        go_wp2_with fail
        go_roundw
        case rel => exact ⟨k + 1, m, A', c', by omega, rfl, by go_num, by rw [HNX.out]; exact HM, by rw [HNX.out]; exact HX.out⟩
        case measure => simp [intOf]; omega
    · have i3 : (o.marks.length : Int) ≤ (k : Int) := by omega
      have c9 : wr.cell? ⟨q, 9, none⟩ = some (.slice o.ma o.marks.length o.mc) := (HB1.out.fr HX.out.1 fun e => e).cell 9
      have hkn : k = o.marks.length := by omega
      have HZ : Hid (m = (prt rg o.marks o.marks.length).length ∧ Fr NoBlk w1 wr ∧ wr.ownsRow (q + 1) 63 3 (.slice A' m c') m (mksc (prt rg o.marks o.marks.length))) := by
        rw [← hkn]
        exact ⟨HM.out, HX.out⟩
      clear hkn HX HM
      go_wp2_with fail
      go_ret
      obtain ⟨h1, h2, h3⟩ := HZ.out
      rw [← h1]
      exact ⟨A', c', rfl, own_base h3 (by have := HF1.out.size; have := HS1.out; omega), HF1.out.trans h2⟩
end Go.Proofs.Ytdgjjkmgdjiliaa
