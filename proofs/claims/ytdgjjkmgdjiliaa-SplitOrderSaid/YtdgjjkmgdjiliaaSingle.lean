/- Single, the program's and the document's. Conditions: the order has few marks. -/
import Derived.Test.YtdgjjkmgdjiliaaHomes
import Derived.Test.YtdgjjkmgdjiliaaDHomes
namespace Go.Proofs.Ytdgjjkmgdjiliaa
open Go.RowKit

def singleOf (o : Od) : Bool := decide (o.t.kind = 1) && decide ((homesOf o.marks).length = 1)
theorem homesOf_len (ms : List Mk) (h : ms.length ≤ 1000) : (homesOf ms).length ≤ 1000 := by
  unfold homesOf
  split
  · simp
  · have h1 := Lib.compact_length_le ((homesI ms).mergeSort fun x y => decide (x ≤ y))
    rw [List.length_mergeSort] at h1
    have : (homesI ms).length = ms.length := List.length_map _
    omega

set_option maxRecDepth 100000 in
set_option maxHeartbeats 1000000 in
theorem single_any (w : World) (o : Od) (ho : OdIn w o) (hm : o.marks.length ≤ 1000) :
    Calls Try.prog 43 #[odv o] w fun e w' => e = .returned (.bool (singleOf o)) ∧ Fr NoBlk w w' := by
  have HF : Hid (Fr NoBlk w (w.alloc (.cells (oda o) 38))) := (Fr.refl _ _).alloc _
  have HK := Lib.hid (homes_any _ o (ho.nofr HF.out) hm)
  have hl := homesOf_len o.marks hm
  have HD : Hid (singleOf o = (decide (o.t.kind = 1) && decide ((homesOf o.marks).length = 1))) := rfl
  clear ho hm
  unfold odv oda at HK
  unfold oda at HF
  unfold odv oda
  generalize singleOf o = res at *
  by_cases hk : o.t.kind = 1
  · have hk1 : ((o.t.kind : Int) == 1) = true := beq_iff_eq.2 hk
    have HKK := Lib.hid hk
    clear hk
    go_enter Try.func43, Try.ntmps43
    go_wp2_with fail
    refine HK.out.mono ?_
    rintro e w1 ⟨A1, c1, rfl, h1⟩
    have HF1 := Lib.hid (HF.out.trans h1.fr)
    clear h1 HK
    by_cases h2 : (homesOf o.marks).length = 1
    · have h3 : (((homesOf o.marks).length : Int) == 1) = true := beq_iff_eq.2 (by omega)
      have H2 := Lib.hid h2
      clear h2
      go_wp2_with fail
      go_ret
      exact ⟨ret_bool (by rw [HD.out, decide_eq_true HKK.out, decide_eq_true H2.out]; rfl), HF1.out⟩
    · have h3 : (((homesOf o.marks).length : Int) == 1) = false := beq_eq_false_iff_ne.2 (by omega)
      have H2 := Lib.hid h2
      clear h2
      go_wp2_with fail
      go_ret
      exact ⟨ret_bool (by rw [HD.out, decide_eq_true HKK.out, decide_eq_false H2.out]; rfl), HF1.out⟩
  · have hk1 : ((o.t.kind : Int) == 1) = false := beq_eq_false_iff_ne.2 hk
    have HKK := Lib.hid hk
    clear hk HK hl
    go_enter Try.func43, Try.ntmps43
    go_wp2_with fail
    go_ret
    exact ⟨ret_bool (by rw [HD.out, decide_eq_false HKK.out]; rfl), HF.out⟩

set_option maxRecDepth 100000 in
set_option maxHeartbeats 1000000 in
theorem dsingle_any (w : World) (o : Od) (ho : OdIn w o) (hm : o.marks.length ≤ 1000) :
    Calls Try.prog 24 #[odv o] w fun e w' => e = .returned (.bool (singleOf o)) ∧ Fr NoBlk w w' := by
  have HF : Hid (Fr NoBlk w (w.alloc (.cells (oda o) 38))) := (Fr.refl _ _).alloc _
  have HK := Lib.hid (dhomes_any _ o (ho.nofr HF.out) hm)
  have hl := homesOf_len o.marks hm
  have HD : Hid (singleOf o = (decide (o.t.kind = 1) && decide ((homesOf o.marks).length = 1))) := rfl
  clear ho hm
  unfold odv oda at HK
  unfold oda at HF
  unfold odv oda
  generalize singleOf o = res at *
  by_cases hk : o.t.kind = 1
  · have hk1 : ((o.t.kind : Int) == 1) = true := beq_iff_eq.2 hk
    have HKK := Lib.hid hk
    clear hk
    go_enter Try.func24, Try.ntmps24
    go_wp2_with fail
    refine HK.out.mono ?_
    rintro e w1 ⟨A1, c1, rfl, h1⟩
    have HF1 := Lib.hid (HF.out.trans h1.fr)
    clear h1 HK
    by_cases h2 : (homesOf o.marks).length = 1
    · have h3 : (((homesOf o.marks).length : Int) == 1) = true := beq_iff_eq.2 (by omega)
      have H2 := Lib.hid h2
      clear h2
      go_wp2_with fail
      go_ret
      exact ⟨ret_bool (by rw [HD.out, decide_eq_true HKK.out, decide_eq_true H2.out]; rfl), HF1.out⟩
    · have h3 : (((homesOf o.marks).length : Int) == 1) = false := beq_eq_false_iff_ne.2 (by omega)
      have H2 := Lib.hid h2
      clear h2
      go_wp2_with fail
      go_ret
      exact ⟨ret_bool (by rw [HD.out, decide_eq_true HKK.out, decide_eq_false H2.out]; rfl), HF1.out⟩
  · have hk1 : ((o.t.kind : Int) == 1) = false := beq_eq_false_iff_ne.2 hk
    have HKK := Lib.hid hk
    clear hk HK hl
    go_enter Try.func24, Try.ntmps24
    go_wp2_with fail
    go_ret
    exact ⟨ret_bool (by rw [HD.out, decide_eq_false HKK.out]; rfl), HF.out⟩
end Go.Proofs.Ytdgjjkmgdjiliaa
