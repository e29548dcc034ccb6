/- btree.cut: what stands ahead of a place, and what stands from another on. Conditions: both places lie ahead of the end; at most 1000 elements. -/
import Derived.Test.YtkdcacajacndmaaB4
import Derived.Test.YtkdcacajacndmaaChecked
import Derived.Lib.SmallJoins
import Derived.Deep.Light
import Derived.BigQuiet
import Derived.Deep.QuietTactic
import Derived.RegionTactic
import Derived.IntWalk
namespace Go.Proofs.Ytkdcacajacndmaa
open Go.RowKit

theorem zeroIR (w : World) : (zeroValue 124).run Try.prog w = .ok (Value.agg #[(Value.string { data := #[] }), .bool false, .slice none 0 0, .int .i64 0, .int .u64 0]) w := by kernel_rfl
theorem sizeIR : (Try.prog.info? 124).map (·.size) = some 5 := by kernel_rfl
theorem infoIR : (Try.prog.info? 124).map (fun i => (i.zero, i.size, i.bytes)) = some (some (Value.agg #[(Value.string { data := #[] }), .bool false, .slice none 0 0, .int .i64 0, .int .u64 0]), 5, 64) := by kernel_rfl
set_option maxRecDepth 100000 in
set_option maxHeartbeats 1000000 in
theorem cutIR_any (w : World) (base g n c e b : Nat) (xs : List Value) (h : RowW w base 124 5 (.slice (some ⟨g, 0, none⟩) n c) n xs) (he0 : 0 < e) (he : e < n) (hb : b < n) (hn : n ≤ 1000) :
    Calls Try.prog 87 #[.slice (some ⟨g, 0, none⟩) n c, .int .i64 e, .int .i64 b] w fun en w' => ∃ q, en = .returned (.tuple #[.slice (some ⟨g, 0, none⟩) e e, .slice (some ⟨q, 0, none⟩) (n - b) (n - b)]) ∧
      w.heap.size ≤ q ∧ RowW w' base 124 5 (.slice (some ⟨g, 0, none⟩) e e) e (xs.take (e * 5)) ∧ RowW w' w.heap.size 124 5 (.slice (some ⟨q, 0, none⟩) (n - b) (n - b)) (n - b) (xs.drop (b * 5)) ∧ Fr (fun j => j = g) w w' := by
  obtain ⟨i0, hi, hz0, hz1, hz2⟩ := info_parts infoIR
  have HH := Lib.hid h
  rcases h.2.2 with ⟨hv, _⟩ | ⟨g', cap, cur, hv, hbg, hg, hnc, hcm, hcs, htake⟩
  · cases hv
  injection hv with hv1 hv2 hv3
  injection hv1 with hv1
  injection hv1 with hv1
  subst hv1 hv3
  have hgl : g < w.heap.size := (Array.getElem?_eq_some_iff.1 hg).1
  obtain ⟨w1, hmk, ho1, hg1⟩ := run_make_full (P := Try.prog) w w.heap.size 99 124 i0 _ 5 Try.underlying99 hi hz0 hz1 .i64 .i64 (n - b) (by rw [hz2]; omega) (by unfold maxLen; omega) (Nat.le_refl _)
  have hf1 : Fr NoBlk w w1 := (Fr.refl _ _).grown hg1 (fun k h => by cases h)
  rcases ho1.2 with ⟨hv, _⟩ | ⟨q, cap1, cur1, hv, _, hq1, _, _, hcs1, _⟩
  · cases hv
  injection hv with hv1 hv2 hv3
  injection hv1 with hv1
  injection hv1 with hv1
  subst hv3
  have hqe : q = w.heap.size := hv1.symm
  have hlen : xs.length = n * 5 := h.1
  have hdl : (xs.drop (b * 5)).length = (n - b) * 5 := by rw [List.length_drop, hlen, Nat.sub_mul]
  obtain ⟨w2, hcp, hq2, hf2⟩ := run_copyW (P := Try.prog) w1 99 99 3 124 5 q 0 (n - b) (n - b) ⟨g, b * 5, none⟩ (n - b) (c - b) cur1 124 (xs.drop (b * 5)) Try.underlying99 sizeIR hq1
    (by rw [hdl]; congr 1; exact (Nat.min_self _).symm)
    (fun j v hj => by
      rw [List.getElem?_drop] at hj
      obtain ⟨b', o', e', hc'⟩ := (h.fr hf1 fun _ _ h => h).rd (by have := (List.getElem?_eq_some_iff.1 hj).1; omega)
      injection e' with e'
      injection e' with e1 e2
      subst e1 e2
      have := hc' _ _ hj
      rw [Nat.zero_add] at this
      unfold Addr.add
      split
      · subst j; simpa using this
      · simpa using this)
    (by rw [Nat.zero_add, hdl]; exact Nat.le_of_eq hcs1.symm) (fun u hu => h.2.1 u (List.mem_of_mem_drop hu))
  rw [show (n - b).min (n - b) = n - b from Nat.min_self _] at hcp
  have hg2 : Bk w2 g 124 cur := (hg.fr hf1 fun h => h).fr hf2 (fun e => by omega)
  obtain ⟨w3, hcl, hg3, hf3⟩ := run_clearW (P := Try.prog) w2 99 124 0 (Value.agg #[(Value.string { data := #[] }), .bool false, .slice none 0 0, .int .i64 0, .int .u64 0]) 5 Try.underlying99 zeroIR rfl (by intro u hu; simp only [Value.cells, List.mem_cons, List.not_mem_nil, or_false] at hu; first | (rcases hu with rfl | rfl | rfl | rfl | rfl <;> rfl) | (rw [hu]; rfl))
    g (e * 5) (n - e) (c - e) cur 124 hg2 (by have := Nat.le_trans (Nat.mul_le_mul_right 5 hnc) hcs; omega) (by omega)
  have HR1 : Hid (RowW w3 base 124 5 (.slice (some ⟨g, 0, none⟩) e e) e (xs.take (e * 5))) := by
    have hov : (over cur (e * 5) (Builtin.zeroCells (Value.cells (Value.agg #[(Value.string { data := #[] }), .bool false, .slice none 0 0, .int .i64 0, .int .u64 0])) (n - e)).toList).size = cur.size := over_size _ _ _ (by
      rw [Array.length_toList, size_zeroCells]
      show (e * 5) + (n - e) * 5 ≤ cur.size
      have := Nat.le_trans (Nat.mul_le_mul_right 5 hnc) hcs
      omega)
    have hecs : e * 5 ≤ cur.size := by have := Nat.le_trans (Nat.mul_le_mul_right 5 hnc) hcs; omega
    refine ⟨by rw [List.length_take, hlen]; omega, fun u hu => h.2.1 u (List.mem_of_mem_take hu), .inr ⟨g, e, _, rfl, hbg, hg3, Nat.le_refl _, by unfold maxLen; omega, by rw [hov]; exact hecs, ?_⟩⟩
    unfold over
    rw [← htake]
    simp only [List.take_take]
    rw [List.append_assoc, List.take_append_of_le_length (by rw [List.length_take, Array.length_toList]; omega), List.take_take]
    congr 1
    omega
  have hf23 : Bk w3 q 124 (over cur1 0 (xs.drop (b * 5))) := hq2.fr hf3 (fun e => by omega)
  have HR2 : Hid (RowW w3 w.heap.size 124 5 (.slice (some ⟨q, 0, none⟩) (n - b) (n - b)) (n - b) (xs.drop (b * 5))) := by
    refine ⟨hdl, fun u hu => h.2.1 u (List.mem_of_mem_drop hu), .inr ⟨q, n - b, _, rfl, by omega, hf23, Nat.le_refl _, by unfold maxLen; omega, ?_, ?_⟩⟩
    · rw [over_size _ _ _ (by rw [Nat.zero_add, hdl]; exact Nat.le_of_eq hcs1.symm)]
      exact Nat.le_of_eq hcs1.symm
    · unfold over
      simp only [List.take_zero, List.nil_append]
      rw [← hdl]
      exact List.take_left
  have HFR : Hid (Fr (fun j => j = g) w w3) := ((hf1.mono fun _ _ h => h.elim).step hf2 (fun i hi e => by omega)).trans hf3
  have HQ : Hid (w.heap.size ≤ q) := by show _ ≤ _; omega
  have hw1 : IntKind.i64.wrap ((n : Int) - (b : Int)) = ((n - b : Nat) : Int) := by rw [IntWalk.i64_in _ (by omega)]; omega
  have hsb : ((n : Int) - (b : Int)) = ((n - b : Nat) : Int) := by omega
  have hcb : ¬ (c = b) := by omega
  have hce : ¬ (c = e) := by omega
  have hbn : b ≤ n := by omega
  have hen : e ≤ n := by omega
  have hec : e ≤ c := by omega
  rw [← hqe] at hmk
  try simp only [Nat.mul_one] at HR1 HR2
  clear h ho1 hg1 hf1 hq1 hcs1 hq2 hf2 hg2 hg3 hf3 hf23 hdl hlen hg hcs htake hv1 hqe
  go_enter Try.func87, Try.ntmps87
  go_wp2_with (first | (at_builtin; go_loud (refine wpList_copyI rfl _ _ 99 99 rfl _ _ rfl rfl hcp ?_)) | (at_builtin; go_loud (refine wpList_clearI rfl _ 99 rfl _ rfl hcl ?_)) | fail)
  go_ret2
  exact ⟨q, rfl, HQ.out, HR1.out, HR2.out, HFR.out⟩
theorem zeroPR (w : World) : (zeroValue 98).run Try.prog w = .ok (Value.pointer none) w := by kernel_rfl
theorem sizePR : (Try.prog.info? 98).map (·.size) = some 1 := by kernel_rfl
theorem infoPR : (Try.prog.info? 98).map (fun i => (i.zero, i.size, i.bytes)) = some (some (Value.pointer none), 1, 8) := by kernel_rfl
set_option maxRecDepth 100000 in
set_option maxHeartbeats 1000000 in
theorem cutPR_any (w : World) (base g n c e b : Nat) (xs : List Value) (h : RowW w base 98 1 (.slice (some ⟨g, 0, none⟩) n c) n xs) (he0 : 0 < e) (he : e < n) (hb : b < n) (hn : n ≤ 1000) :
    Calls Try.prog 88 #[.slice (some ⟨g, 0, none⟩) n c, .int .i64 e, .int .i64 b] w fun en w' => ∃ q, en = .returned (.tuple #[.slice (some ⟨g, 0, none⟩) e e, .slice (some ⟨q, 0, none⟩) (n - b) (n - b)]) ∧
      w.heap.size ≤ q ∧ RowW w' base 98 1 (.slice (some ⟨g, 0, none⟩) e e) e (xs.take (e)) ∧ RowW w' w.heap.size 98 1 (.slice (some ⟨q, 0, none⟩) (n - b) (n - b)) (n - b) (xs.drop (b)) ∧ Fr (fun j => j = g) w w' := by
  obtain ⟨i0, hi, hz0, hz1, hz2⟩ := info_parts infoPR
  have HH := Lib.hid h
  rcases h.2.2 with ⟨hv, _⟩ | ⟨g', cap, cur, hv, hbg, hg, hnc, hcm, hcs, htake⟩
  · cases hv
  injection hv with hv1 hv2 hv3
  injection hv1 with hv1
  injection hv1 with hv1
  subst hv1 hv3
  have hgl : g < w.heap.size := (Array.getElem?_eq_some_iff.1 hg).1
  obtain ⟨w1, hmk, ho1, hg1⟩ := run_make_full (P := Try.prog) w w.heap.size 100 98 i0 _ 1 Try.underlying100 hi hz0 hz1 .i64 .i64 (n - b) (by rw [hz2]; omega) (by unfold maxLen; omega) (Nat.le_refl _)
  have hf1 : Fr NoBlk w w1 := (Fr.refl _ _).grown hg1 (fun k h => by cases h)
  rcases ho1.2 with ⟨hv, _⟩ | ⟨q, cap1, cur1, hv, _, hq1, _, _, hcs1, _⟩
  · cases hv
  injection hv with hv1 hv2 hv3
  injection hv1 with hv1
  injection hv1 with hv1
  subst hv3
  have hqe : q = w.heap.size := hv1.symm
  have hlen : xs.length = n * 1 := h.1
  have hdl : (xs.drop (b * 1)).length = (n - b) * 1 := by rw [List.length_drop, hlen, Nat.sub_mul]
  obtain ⟨w2, hcp, hq2, hf2⟩ := run_copyW (P := Try.prog) w1 100 100 3 98 1 q 0 (n - b) (n - b) ⟨g, b, none⟩ (n - b) (c - b) cur1 98 (xs.drop (b * 1)) Try.underlying100 sizePR hq1
    (by rw [hdl]; congr 1; exact (Nat.min_self _).symm)
    (fun j v hj => by
      rw [List.getElem?_drop] at hj
      obtain ⟨b', o', e', hc'⟩ := (h.fr hf1 fun _ _ h => h).rd (by have := (List.getElem?_eq_some_iff.1 hj).1; omega)
      injection e' with e'
      injection e' with e1 e2
      subst e1 e2
      have := hc' _ _ hj
      rw [Nat.zero_add] at this
      unfold Addr.add
      split
      · subst j; simpa using this
      · simpa using this)
    (by rw [Nat.zero_add, hdl]; exact Nat.le_of_eq hcs1.symm) (fun u hu => h.2.1 u (List.mem_of_mem_drop hu))
  rw [show (n - b).min (n - b) = n - b from Nat.min_self _] at hcp
  have hg2 : Bk w2 g 98 cur := (hg.fr hf1 fun h => h).fr hf2 (fun e => by omega)
  obtain ⟨w3, hcl, hg3, hf3⟩ := run_clearW (P := Try.prog) w2 100 98 0 (Value.pointer none) 1 Try.underlying100 zeroPR rfl (by intro u hu; simp only [Value.cells, List.mem_cons, List.not_mem_nil, or_false] at hu; first | (rcases hu with rfl | rfl <;> rfl) | (rw [hu]; rfl))
    g (e) (n - e) (c - e) cur 98 hg2 (by have := Nat.le_trans (Nat.mul_le_mul_right 1 hnc) hcs; omega) (by omega)
  have HR1 : Hid (RowW w3 base 98 1 (.slice (some ⟨g, 0, none⟩) e e) e (xs.take (e * 1))) := by
    have hov : (over cur (e) (Builtin.zeroCells (Value.cells (Value.pointer none)) (n - e)).toList).size = cur.size := over_size _ _ _ (by
      rw [Array.length_toList, size_zeroCells]
      show (e) + (n - e) * 1 ≤ cur.size
      have := Nat.le_trans (Nat.mul_le_mul_right 1 hnc) hcs
      omega)
    have hecs : e * 1 ≤ cur.size := by have := Nat.le_trans (Nat.mul_le_mul_right 1 hnc) hcs; omega
    refine ⟨by rw [List.length_take, hlen]; omega, fun u hu => h.2.1 u (List.mem_of_mem_take hu), .inr ⟨g, e, _, rfl, hbg, hg3, Nat.le_refl _, by unfold maxLen; omega, by rw [hov]; exact hecs, ?_⟩⟩
    unfold over
    rw [← htake]
    simp only [List.take_take]
    rw [List.append_assoc, List.take_append_of_le_length (by rw [List.length_take, Array.length_toList]; omega), List.take_take]
    congr 1
    omega
  have hf23 : Bk w3 q 98 (over cur1 0 (xs.drop (b * 1))) := hq2.fr hf3 (fun e => by omega)
  have HR2 : Hid (RowW w3 w.heap.size 98 1 (.slice (some ⟨q, 0, none⟩) (n - b) (n - b)) (n - b) (xs.drop (b * 1))) := by
    refine ⟨hdl, fun u hu => h.2.1 u (List.mem_of_mem_drop hu), .inr ⟨q, n - b, _, rfl, by omega, hf23, Nat.le_refl _, by unfold maxLen; omega, ?_, ?_⟩⟩
    · rw [over_size _ _ _ (by rw [Nat.zero_add, hdl]; exact Nat.le_of_eq hcs1.symm)]
      exact Nat.le_of_eq hcs1.symm
    · unfold over
      simp only [List.take_zero, List.nil_append]
      rw [← hdl]
      exact List.take_left
  have HFR : Hid (Fr (fun j => j = g) w w3) := ((hf1.mono fun _ _ h => h.elim).step hf2 (fun i hi e => by omega)).trans hf3
  have HQ : Hid (w.heap.size ≤ q) := by show _ ≤ _; omega
  have hw1 : IntKind.i64.wrap ((n : Int) - (b : Int)) = ((n - b : Nat) : Int) := by rw [IntWalk.i64_in _ (by omega)]; omega
  have hsb : ((n : Int) - (b : Int)) = ((n - b : Nat) : Int) := by omega
  have hcb : ¬ (c = b) := by omega
  have hce : ¬ (c = e) := by omega
  have hbn : b ≤ n := by omega
  have hen : e ≤ n := by omega
  have hec : e ≤ c := by omega
  rw [← hqe] at hmk
  try simp only [Nat.mul_one] at HR1 HR2
  clear h ho1 hg1 hf1 hq1 hcs1 hq2 hf2 hg2 hg3 hf3 hf23 hdl hlen hg hcs htake hv1 hqe
  go_enter Try.func88, Try.ntmps88
  go_wp2_with (first | (at_builtin; go_loud (refine wpList_copyI rfl _ _ 100 100 rfl _ _ rfl rfl hcp ?_)) | (at_builtin; go_loud (refine wpList_clearI rfl _ 100 rfl _ rfl hcl ?_)) | fail)
  go_ret2
  exact ⟨q, rfl, HQ.out, HR1.out, HR2.out, HFR.out⟩
end Go.Proofs.Ytkdcacajacndmaa
