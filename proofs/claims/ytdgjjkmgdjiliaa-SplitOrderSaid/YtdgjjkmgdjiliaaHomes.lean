/- The program's Homes. Conditions: the order has few marks. -/
import Derived.Test.YtdgjjkmgdjiliaaHomesP
import Derived.Laws.MakeOwn
namespace Go.Proofs.Ytdgjjkmgdjiliaa
open Go.RowKit

set_option maxRecDepth 100000 in
set_option maxHeartbeats 2000000 in
theorem homes_any (w : World) (o : Od) (ho : OdIn w o) (hm : o.marks.length ≤ 1000) :
    Calls Try.prog 42 #[odv o] w (IntsPost w (homesOf o.marks)) := by
  obtain ⟨i0, hi, hz0, hz1, hz2⟩ := info_parts intInfo
  have HF : Hid (Fr NoBlk w (w.alloc (.cells (oda o) 38))) := (Fr.refl _ _).alloc _
  have HB := Lib.hid (Bk.new w 38 (oda o))
  have HR := Lib.hid ho.marks
  clear ho
  by_cases h0 : o.marks.length = 0
  · have HN : Hid (o.marks = []) := List.eq_nil_of_length_eq_zero h0
    have hb0 : ((o.marks.length : Int) == 0) = true := beq_iff_eq.2 (by omega)
    have HL := Lib.hid (Bk.new (w.alloc (.cells (oda o) 38)) 3 #[.int .i64 0])
    unfold oda at HF HL
    unfold odv oda
    clear HB HR hb0
    rw [h0] at HF HL ⊢
    go_enter Try.func42, Try.ntmps42
    go_wp2_with fail
    go_ret
    have e : homesOf o.marks = [0] := by rw [HN.out]; rfl
    rw [e]
    refine ⟨some ⟨w.heap.size + 1, 0, none⟩, 1, rfl, ⟨?_, Nat.le_refl _, by decide, (fun k ⟨a, e, h⟩ => by injection e with e; subst e; simp only at h; omega), HF.out.alloc _⟩⟩
    have h := Rd.of_cells HL.out
    simpa [ic] using h
  · have hb0 : ((o.marks.length : Int) == 0) = false := beq_eq_false_iff_ne.2 (by omega)
    have HNE : Hid (o.marks ≠ []) := fun e => h0 (by rw [e]; rfl)
    have HHO := Lib.hid (homesOf_is HNE.out)
    have HMS : Hid (homesOf o.marks = Lib.compact ((homesI o.marks).mergeSort fun x y => decide (x ≤ y))) := by
      show _ = _
      unfold homesOf
      rw [if_neg HNE.out]
    obtain ⟨w1, hmk, ho1, hg1⟩ := run_make_own (P := Try.prog) (w.alloc (.cells (oda o) 38)) w.heap.size 72 3 i0 (.int .i64 0) 1 Try.underlying72 hi hz0 hz1 .i64 .i64 o.marks.length (by rw [hz2]; omega) (by unfold maxLen; omega) (by simp)
    have HF1 := Lib.hid (HF.out.trans ((Fr.ofGrown hg1).mono fun _ _ e => by cases e))
    have HB1 := Lib.hid (HB.out.fr ((Fr.ofGrown hg1).mono (D := NoBlk) fun _ _ e => by cases e) (fun h => h))
    have HO1 : Hid (w1.ownsRow w.heap.size 3 1 (.slice (some ⟨w.heap.size + 1, 0, none⟩) 0 o.marks.length) 0 []) := by
      show World.ownsRow _ _ _ _ _ _ _
      simpa using ho1
    have c9 : w1.cell? ⟨w.heap.size, 9, none⟩ = some (.slice o.ma o.marks.length o.mc) := HB1.out.cell 9
    have hsz : (w.alloc (.cells (oda o) 38)).heap.size = w.heap.size + 1 := by simp
    rw [hsz] at hmk
    unfold oda at HF hmk
    unfold odv oda
    clear HB ho1 hg1 hsz h0
    obtain ⟨n, hn⟩ : ∃ n, n = o.marks.length := ⟨_, rfl⟩
    rw [← hn] at hmk c9 hb0 HO1 hm ⊢
    have HNN := Lib.hid hn
    clear hn
    go_enter Try.func42, Try.ntmps42
    go_wp2_with fail
    clear hmk
    go_loopw [3, 18] (fun v i wr => ∃ k : Nat, k ≤ n ∧ i = .int .i64 k ∧ Hid (wr.ownsRow w.heap.size 3 1 v k (ic (homesI (o.marks.take k)))) ∧ Hid (Fr NoBlk w wr) ∧ Hid (v ≠ .slice none 0 0)) (fun _ i _ => n - (intOf i).toNat)
    case atStart => exact ⟨0, by omega, rfl, by simpa [ic, homesI] using HO1, HF1, by intro h; injection h with h; cases h⟩
    case round =>
      clear c9
      obtain ⟨k, hk, rfl, HO, HFR, HV⟩ := hrel
      obtain ⟨Av, cv, rfl, _, _⟩ := own_form HO.out
      by_cases hlt : k < n
      · obtain ⟨m, hm⟩ : ∃ m, o.marks[k]? = some m := ⟨_, List.getElem?_eq_getElem (by rw [← HNN.out]; exact hlt)⟩
        obtain ⟨b, o', hA, hc0, hc1, hc2⟩ := (HR.out.nofr HFR.out).mark hm
        rw [hA]
        have HT : Hid (homesI (o.marks.take (k + 1)) = homesI (o.marks.take k) ++ [m.home]) := by
          show _ = _
          obtain ⟨hkl, rfl⟩ := List.getElem?_eq_some_iff.1 hm
          unfold homesI
          rw [List.take_succ_eq_append_getElem hkl, List.map_append]
          rfl
        clear hm hA
        have hsz1 : ((wr.alloc (.cells #[st m.key, .int .i64 m.home, .int .u64 (m.count : Int)] 63)).alloc (.cells #[.int .i64 m.home] 3)).heap.size = wr.heap.size + 2 := by simp
        have HFS := Lib.hid HFR.out.size
        have HNEW : Hid (Rd ((wr.alloc (.cells #[st m.key, .int .i64 m.home, .int .u64 (m.count : Int)] 63)).alloc (.cells #[.int .i64 m.home] 3)) (some ⟨wr.heap.size + 1, 0, none⟩) (ic [m.home])) := Rd.of_cells (Bk.new' _ _ _ (by simp))
        unfold st at hsz1 HNEW
        go_wp2_with (at_builtin; refine wpList_app rfl _ _ 72 rfl w.heap.size 3 i0 (.int .i64 0) 8 Try.underlying72 hi hz0 hz1 hz2 rfl _ _ _ rfl ((HO.out.alloc _).alloc _) (some ⟨wr.heap.size + 1, 0, none⟩) 1 1 (ic [m.home]) rfl rfl HNEW.out (ic_one _) (fun h => by cases h) ?c3 ?c4 ?c5 ?_)
        case c3 => unfold maxLen; omega
        case c4 => omega
        case c5 => have := HFS.out; omega
        intro v' w2 hown' hgrow hnil hblk
        have HX : Hid (w2.ownsRow w.heap.size 3 1 v' (k + 1) (ic (homesI (o.marks.take (k + 1))))) := by
          show World.ownsRow _ _ _ _ _ _ _
          rw [HT.out, ic_append]
          exact hown'
        have HY : Hid (Fr NoBlk w w2) := ((HFR.out.alloc _).alloc _).grown hgrow (fun j hj hlt => by have := own_blk HO.out hj; omega)
        have HZ : Hid (v' ≠ .slice none 0 0) := fun e => hnil e
        clear hown' hgrow hnil hblk hsz1
        go_wp2
        go_roundw
        case rel => exact ⟨k + 1, by omega, by go_num, HX, HY, HZ⟩
        case measure => simp [intOf]; omega
      · obtain rfl : k = n := by omega
        have HTK : Hid (o.marks.take k = o.marks) := List.take_of_length_le (by have := HNN.out; omega)
        have hO := HO.out
        rw [HTK.out] at hO
        have hOB : ∀ q, (Value.slice Av k cv).ownBlock = some q → w.heap.size ≤ q ∧ q < wr.heap.size := fun q hq => own_blk hO hq
        have HCV : Hid (k ≤ cv ∧ cv ≤ maxLen) := by
          obtain ⟨A', c', e, h1, _⟩ := own_form hO
          injection e with _ _ e3
          subst e3
          exact ⟨h1, own_cap hO⟩
        have hKL : (homesI o.marks).length = k := by unfold homesI; rw [List.length_map]; exact HNN.out.symm
        generalize homesI o.marks = hs at *
        obtain ⟨g, rfl⟩ : ∃ g, Av = some ⟨g, 0, none⟩ := by
          rcases hO.2 with ⟨e, _⟩ | ⟨g, cap, cur, e, _⟩
          · injection e with e1 e2 e3
            subst e1 e2 e3
            exact absurd rfl HV.out
          · injection e with e1
            exact ⟨g, e1⟩
        have hgb := hOB g rfl
        have hH := holdsI_own (xs := hs) (by rw [hKL]; exact hO)
        have hso := Try.slices_Sort_int g 0 cv hs wr hH hgb.2 (by omega)
        rw [hKL] at hso
        have HSo := Lib.hid hso
        have HH := Lib.hid hH
        have HGB := Lib.hid hgb
        have HKL := Lib.hid hKL
        clear hso hH hgb hKL hO hOB HO
        go_wp2_with fail
        refine HSo.out.mono ?_
        rintro e w2 ⟨rfl, n2, os2, hw2⟩
        have HF2 : Hid (Fr (fun j => j = g) wr w2) := by
          show Fr _ _ _
          rw [hw2]
          exact ((Fr.ahead _ _ _).trans (Fr.putRowI _ _ _ _)).trans (Fr.grow _ _ _)
        have HH2 : Hid (Sort.Holds (Value.int .i64) w2 g 0 (hs.mergeSort fun x y => decide (x ≤ y)).toArray) := by
          show Sort.Holds _ _ _ _ _
          rw [hw2]
          refine Sort.holds_grow _ _ _ _ _ _ (by simpa [Sort.putRow, Sort.mapBlock, Sort.ahead] using HGB.out.2) (Sort.holds_putRow _ _ _ _ hs.toArray _ (Sort.holds_ahead _ _ _ _ _ _ HH.out) (by simp))
        have HLS : Hid ((hs.mergeSort fun x y => decide (x ≤ y)).length = k) := by show _ = _; rw [List.length_mergeSort]; exact HKL.out
        clear hw2 HSo HH
        generalize (hs.mergeSort fun x y => decide (x ≤ y)) = ss at *
        have hco := Try.slices_Compact_int g 0 cv ss w2 HH2.out (by have := HLS.out; omega) (by have := HLS.out; have := HCV.out; omega)
        rw [HLS.out] at hco
        have HCo := Lib.hid hco
        clear hco
        go_wp2_with fail
        refine HCo.out.mono ?_
        rintro e w3 ⟨rfl, q3, hw3⟩
        have hcl : (Lib.compact ss).length ≤ ss.length := Lib.compact_length_le ss
        have HF3 : Hid (Fr (fun j => j = g) w2 w3) := by
          show Fr _ _ _
          rw [hw3]
          exact (Fr.ahead _ _ _).trans (Fr.putRowI _ _ _ _)
        have HR3 : Hid (Rd w3 (some ⟨g, 0, none⟩) (ic (Lib.compact ss))) := by
          show Rd _ _ _
          rw [hw3]
          intro _
          refine ⟨g, 0, rfl, fun j v hj => ?_⟩
          have hjl := (List.getElem?_eq_some_iff.1 hj).1
          rw [ic_len] at hjl
          rw [Sort.cell?_putRow (Value.int .i64) (Sort.ahead w2 q3) g 0 ss.toArray _ (Sort.holds_ahead _ _ _ _ _ _ HH2.out) (by simp; rw [← HLS.out]; omega) j (by simp; omega), ← hj]
          simp [ic, hjl, List.getElem?_append]
        have HCL : Hid ((Lib.compact ss).length ≤ cv) := by
          show _ ≤ _
          have h1 := HLS.out; have h2 := HCV.out
          omega
        clear hw3 hcl HCo
        go_wp2_with fail
        go_ret
        rw [HMS.out]
        exact ⟨some ⟨g, 0, none⟩, cv, rfl, ⟨HR3.out, HCL.out, HCV.out.2, (fun j ⟨a, e, h⟩ => by injection e with e; subst e; simp only at h; have := HGB.out; omega), (HFR.out.step HF2.out (fun i hi e => by have := HGB.out; omega)).step HF3.out (fun i hi e => by have := HGB.out; omega)⟩⟩
end Go.Proofs.Ytdgjjkmgdjiliaa
