/- Split's Part: the marks of an order for one region, in new memory. Conditions: few marks. -/
import Derived.Test.YtdgjjkmgdjiliaaAppW
import Derived.Test.YtdgjjkmgdjiliaaOCopy
namespace Go.Proofs.Ytdgjjkmgdjiliaa
open Go.RowKit

/-- the marks for a region among the first n. -/
def prt (rg : Int) (ms : List Mk) (n : Nat) : List Mk := (ms.take n).filter fun m => decide (m.home = rg)
theorem prt_yes {rg : Int} {ms : List Mk} {n : Nat} {x : Mk} (h : ms[n]? = some x) (hx : x.home = rg) : prt rg ms (n + 1) = prt rg ms n ++ [x] := by
  unfold prt
  rw [List.take_add_one, h, List.filter_append]
  simp [hx]
theorem prt_no {rg : Int} {ms : List Mk} {n : Nat} {x : Mk} (h : ms[n]? = some x) (hx : x.home ≠ rg) : prt rg ms (n + 1) = prt rg ms n := by
  unfold prt
  rw [List.take_add_one, h, List.filter_append]
  simp [hx]
theorem prt_len (rg : Int) (ms : List Mk) (n : Nat) : (prt rg ms n).length ≤ ms.length := by
  unfold prt
  refine Nat.le_trans (List.length_filter_le _ _) ?_
  rw [List.length_take]
  omega

set_option maxRecDepth 100000 in
set_option maxHeartbeats 2000000 in
theorem spart_any (w : World) (o : Od) (ho : OdIn w o) (hm : o.marks.length ≤ 1000) (rg : Int) :
    Calls Try.prog 31 #[odv o, .int .i64 rg] w fun e w' => ∃ A' c', e = .returned (.slice A' (prt rg o.marks o.marks.length).length c') ∧ w'.ownsRow w.heap.size 63 3 (.slice A' (prt rg o.marks o.marks.length).length c') (prt rg o.marks o.marks.length).length (mksc (prt rg o.marks o.marks.length)) ∧ Fr NoBlk w w' := by
  obtain ⟨i0, hi, hz0, hz1, hz2⟩ := info_partsR markInfo
  obtain ⟨q, hq⟩ : ∃ q, q = w.heap.size := ⟨_, rfl⟩
  obtain ⟨w1, hw1⟩ : ∃ w1, w1 = w.alloc (.cells (oda o) 38) := ⟨_, rfl⟩
  have HF1 : Hid (Fr NoBlk w w1) := by show Fr _ _ _; rw [hw1]; exact (Fr.refl _ _).alloc _
  have HB1 : Hid (Bk w1 q 38 (oda o)) := by show Bk _ _ _ _; rw [hw1, hq]; exact Bk.new _ _ _
  have HR := Lib.hid (ho.marks.nofr HF1.out)
  have HMM := Lib.hid hm
  have HW1 := Lib.hid hw1
  have HQ := Lib.hid hq
  have c9 : w1.cell? ⟨q, 9, none⟩ = some (.slice o.ma o.marks.length o.mc) := HB1.out.cell 9
  have HO0 : Hid (w1.ownsRow w1.heap.size 63 3 (.slice none 0 0) 0 []) := World.ownsRow_nil _ _ _ _
  clear ho hw1 hq
  unfold oda at HW1
  unfold odv oda
  go_enter Try.func31, Try.ntmps31
  go_wp2_with fail
  rw [← HW1.out, ← HQ.out]
  go_wp2_with fail
  go_loopw [5, 11] (fun out z wr => ∃ (k m : Nat) (A' : Option Addr) (c' : Nat), k ≤ o.marks.length ∧ out = .slice A' m c' ∧ z = .int .i64 k ∧ Hid (m = (prt rg o.marks k).length) ∧ Hid (Fr NoBlk w1 wr ∧ wr.ownsRow w1.heap.size 63 3 (.slice A' m c') m (mksc (prt rg o.marks k)))) (fun _ z _ => o.marks.length - (intOf z).toNat)
  case atStart => exact ⟨0, 0, _, _, Nat.zero_le _, rfl, rfl, rfl, Fr.refl _ _, HO0.out⟩
  case round =>
    obtain ⟨k, m, A', c', hk, rfl, rfl, HM, HX⟩ := hrel
    by_cases hlt : k < o.marks.length
    · obtain ⟨x, hx⟩ : ∃ x, o.marks[k]? = some x := ⟨_, List.getElem?_eq_getElem hlt⟩
      obtain ⟨b0, o0, hA, d0, d1, d2⟩ := (HR.out.nofr HX.out.1).mark hx
      have i1 : (0 : Int) ≤ (k : Int) := by omega
      have i2 : (k : Int) < (o.marks.length : Int) := by omega
      obtain ⟨xb, hxb⟩ : ∃ xb, xb = wr.heap.size := ⟨_, rfl⟩
      obtain ⟨w5, hw5⟩ : ∃ w5, w5 = wr.alloc (.cells #[st x.key, .int .i64 x.home, .int .u64 (x.count : Int)] 63) := ⟨_, rfl⟩
      have HF5 : Hid (Fr NoBlk wr w5) := by show Fr _ _ _; rw [hw5]; exact (Fr.refl _ _).alloc _
      have HXB : Hid (Bk w5 xb 63 #[st x.key, .int .i64 x.home, .int .u64 (x.count : Int)]) := by show Bk _ _ _ _; rw [hw5, hxb]; exact Bk.new _ _ _
      have e0 : w5.cell? ⟨xb, 0, none⟩ = some (st x.key) := HXB.out.cell 0
      have e1 : w5.cell? ⟨xb, 1, none⟩ = some (.int .i64 x.home) := HXB.out.cell 1
      have e2 : w5.cell? ⟨xb, 2, none⟩ = some (.int .u64 (x.count : Int)) := HXB.out.cell 2
      have HW5 := Lib.hid hw5
      have HXQ := Lib.hid hxb
      have HMK : Hid (m ≤ 1000) := by show _ ≤ _; have := prt_len rg o.marks k; have := HM.out; have := HMM.out; omega
      rw [hA]
      unfold st at e0 HW5
      clear hw5 hxb hA
      by_cases hh : x.home = rg
      · have h1 : (x.home == rg) = true := beq_iff_eq.2 hh
        have HNX := Lib.hid (prt_yes hx hh)
        have HO6 : Hid ((w5.alloc (.cells #[st x.key, .int .i64 x.home, .int .u64 (x.count : Int)] 63)).ownsRow w1.heap.size 63 3 (.slice A' m c') m (mksc (prt rg o.marks k))) := own_fr HX.out.2 (HF5.out.alloc _) fun _ _ h => h
        have HF6 : Hid (Fr NoBlk w1 (w5.alloc (.cells #[st x.key, .int .i64 x.home, .int .u64 (x.count : Int)] 63))) := (HX.out.1.trans HF5.out).alloc _
        have HS6 : Hid (Rd (w5.alloc (.cells #[st x.key, .int .i64 x.home, .int .u64 (x.count : Int)] 63)) (some ⟨wr.heap.size + 1, 0, none⟩) [st x.key, .int .i64 x.home, .int .u64 (x.count : Int)]) := by
          rw [show wr.heap.size + 1 = w5.heap.size by rw [HW5.out, World.size_alloc]]
          exact Rd.of_cells (Bk.new w5 63 #[st x.key, .int .i64 x.home, .int .u64 (x.count : Int)])
        have HIN : Hid (mksc (prt rg o.marks (k + 1)) = mksc (prt rg o.marks k) ++ [st x.key, .int .i64 x.home, .int .u64 (x.count : Int)]) := by show _ = _; rw [HNX.out, mksc_append]; rfl
        have HMN : Hid (m + 1 = (prt rg o.marks (k + 1)).length) := by show _ = _; rw [HNX.out, List.length_append, ← HM.out]; rfl
        have HON : Hid (∀ u ∈ ([st x.key, .int .i64 x.home, .int .u64 (x.count : Int)] : List Value), u.oneCell' = true) := mksc_one [x]
        have HSZ : Hid (w1.heap.size ≤ (w5.alloc (.cells #[st x.key, .int .i64 x.home, .int .u64 (x.count : Int)] 63)).heap.size) := by show _ ≤ _; have := HF6.out.size; have := HF1.out.size; omega
        unfold st at HO6 HS6 HIN HON HSZ HF6
        clear HNX hh hx
        go_wp2_with (first | (at_builtin; rw [← HW5.out]; go_loud (refine wpList_appW rfl _ _ 36 rfl w1.heap.size 63 i0 _ 3 32 Try.underlying36 hi hz0 hz1 hz2 rfl (by decide) (.slice A' m c') m (mksc (prt rg o.marks k)) rfl HO6.out (some ⟨wr.heap.size + 1, 0, none⟩) 1 1 [.string (bstr x.key), .int .i64 x.home, .int .u64 (x.count : Int)] rfl rfl HS6.out HON.out (fun h => by cases h) (by unfold maxLen; have := HMK.out; omega) (by have := HMK.out; omega) HSZ.out ?_); intro v7 w7 ho7 hg7 hb7; rw [← HIN.out] at ho7; obtain ⟨A7, c7, rfl, hc7, hA7⟩ := own_form ho7; have HO7 := Lib.hid ho7; have HF7 := Lib.hid (HF6.out.grown hg7 fun j hj hl => by have := (HO6.out.lt j hj).1; omega); clear ho7 hg7 hb7 hA7) | fail)
        go_roundw
        case rel => exact ⟨k + 1, m + 1, A7, c7, by omega, rfl, by go_num, HMN, HF7.out, HO7.out⟩
        case measure => simp [intOf]; omega
      · have h1 : (x.home == rg) = false := beq_eq_false_iff_ne.2 hh
        have HNX := Lib.hid (prt_no hx hh)
        clear hh hx
        go_wp2_with fail
        rw [← HW5.out]
        go_roundw
        case rel => exact ⟨k + 1, m, A', c', by omega, rfl, by go_num, by rw [HNX.out]; exact HM, by rw [HNX.out]; exact ⟨HX.out.1.trans HF5.out, own_fr HX.out.2 HF5.out fun _ _ h => h⟩⟩
        case measure => simp [intOf]; omega
    · have i3 : (o.marks.length : Int) ≤ (k : Int) := by omega
      have hkn : k = o.marks.length := by omega
      have HZ : Hid (m = (prt rg o.marks o.marks.length).length ∧ Fr NoBlk w1 wr ∧ wr.ownsRow w1.heap.size 63 3 (.slice A' m c') m (mksc (prt rg o.marks o.marks.length))) := by
        rw [← hkn]
        exact ⟨HM.out, HX.out⟩
      clear hkn HX HM
      go_wp2_with fail
      go_ret
      obtain ⟨h1, h2, h3⟩ := HZ.out
      rw [← h1]
      exact ⟨A', c', rfl, own_base h3 HF1.out.size, HF1.out.trans h2⟩
end Go.Proofs.Ytdgjjkmgdjiliaa
