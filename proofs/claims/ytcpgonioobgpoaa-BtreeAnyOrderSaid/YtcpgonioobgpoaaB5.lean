/- btree.cut: what stands ahead of a place, and what stands from another on. Conditions: both places lie ahead of the end; at most 1000 elements. -/
import Derived.Test.YtcpgonioobgpoaaB4
import Derived.Test.YtcpgonioobgpoaaChecked
import Derived.Lib.SmallJoins
import Derived.Deep.Light
import Derived.BigQuiet
import Derived.Deep.QuietTactic
import Derived.RegionTactic
import Derived.IntWalk
namespace Go.Proofs.Ytcpgonioobgpoaa
open Go.RowKit

theorem zeroIS (w : World) : (zeroValue 72).run Try.prog w = .ok (Value.agg #[(Value.string { data := #[] }), .int .i64 0]) w := by kernel_rfl
theorem sizeIS : (Try.prog.info? 72).map (·.size) = some 2 := by kernel_rfl
theorem infoIS : (Try.prog.info? 72).map (fun i => (i.zero, i.size, i.bytes)) = some (some (Value.agg #[(Value.string { data := #[] }), .int .i64 0]), 2, 24) := by kernel_rfl
set_option maxRecDepth 100000 in
set_option maxHeartbeats 1000000 in
theorem cutIS_any (w : World) (base g n c e b : Nat) (xs : List Value) (h : RowW w base 72 2 (.slice (some ⟨g, 0, none⟩) n c) n xs) (he0 : 0 < e) (he : e < n) (hb : b < n) (hn : n ≤ 1000) :
    Calls Try.prog 63 #[.slice (some ⟨g, 0, none⟩) n c, .int .i64 e, .int .i64 b] w fun en w' => ∃ q, en = .returned (.tuple #[.slice (some ⟨g, 0, none⟩) e e, .slice (some ⟨q, 0, none⟩) (n - b) (n - b)]) ∧
      w.heap.size ≤ q ∧ RowW w' base 72 2 (.slice (some ⟨g, 0, none⟩) e e) e (xs.take (e * 2)) ∧ RowW w' w.heap.size 72 2 (.slice (some ⟨q, 0, none⟩) (n - b) (n - b)) (n - b) (xs.drop (b * 2)) ∧ Fr (fun j => j = g) w w' := by
  obtain ⟨i0, hi, hz0, hz1, hz2⟩ := info_parts infoIS
  have HH := Lib.hid h
  rcases h.2.2 with ⟨hv, _⟩ | ⟨g', cap, cur, hv, hbg, hg, hnc, hcm, hcs, htake⟩
  · cases hv
  injection hv with hv1 hv2 hv3
  injection hv1 with hv1
  injection hv1 with hv1
  subst hv1 hv3
  have hgl : g < w.heap.size := (Array.getElem?_eq_some_iff.1 hg).1
  obtain ⟨w1, hmk, ho1, hg1⟩ := run_make_full (P := Try.prog) w w.heap.size 64 72 i0 _ 2 Try.underlying64 hi hz0 hz1 .i64 .i64 (n - b) (by rw [hz2]; omega) (by unfold maxLen; omega) (Nat.le_refl _)
  have hf1 : Fr NoBlk w w1 := (Fr.refl _ _).grown hg1 (fun k h => by cases h)
  rcases ho1.2 with ⟨hv, _⟩ | ⟨q, cap1, cur1, hv, _, hq1, _, _, hcs1, _⟩
  · cases hv
  injection hv with hv1 hv2 hv3
  injection hv1 with hv1
  injection hv1 with hv1
  subst hv3
  have hqe : q = w.heap.size := hv1.symm
  have hlen : xs.length = n * 2 := h.1
  have hdl : (xs.drop (b * 2)).length = (n - b) * 2 := by rw [List.length_drop, hlen, Nat.sub_mul]
  obtain ⟨w2, hcp, hq2, hf2⟩ := run_copyW (P := Try.prog) w1 64 64 3 72 2 q 0 (n - b) (n - b) ⟨g, b * 2, none⟩ (n - b) (c - b) cur1 72 (xs.drop (b * 2)) Try.underlying64 sizeIS hq1
    (by rw [hdl]; congr 1; exact (Nat.min_self _).symm)
    (fun j v hj => by
      rw [List.getElem?_drop] at hj
      obtain ⟨b', o', e', hc'⟩ := (h.fr hf1 fun _ _ h => h).rd (by have := (List.getElem?_eq_some_iff.1 hj).1; omega)
      injection e' with e'
      injection e' with e1 e2
      subst e1 e2
      have := hc' _ _ hj
      rw [Nat.zero_add] at this
      unfold Addr.add
      split
      · subst j; simpa using this
      · simpa using this)
    (by rw [Nat.zero_add, hdl]; exact Nat.le_of_eq hcs1.symm) (fun u hu => h.2.1 u (List.mem_of_mem_drop hu))
  rw [show (n - b).min (n - b) = n - b from Nat.min_self _] at hcp
  have hg2 : Bk w2 g 72 cur := (hg.fr hf1 fun h => h).fr hf2 (fun e => by omega)
  obtain ⟨w3, hcl, hg3, hf3⟩ := run_clearW (P := Try.prog) w2 64 72 0 (Value.agg #[(Value.string { data := #[] }), .int .i64 0]) 2 Try.underlying64 zeroIS rfl (by intro u hu; simp only [Value.cells, List.mem_cons, List.not_mem_nil, or_false] at hu; first | (rcases hu with rfl | rfl <;> rfl) | (rw [hu]; rfl))
    g (e * 2) (n - e) (c - e) cur 72 hg2 (by have := Nat.le_trans (Nat.mul_le_mul_right 2 hnc) hcs; omega) (by omega)
  have HR1 : Hid (RowW w3 base 72 2 (.slice (some ⟨g, 0, none⟩) e e) e (xs.take (e * 2))) := by
    have hov : (over cur (e * 2) (Builtin.zeroCells (Value.cells (Value.agg #[(Value.string { data := #[] }), .int .i64 0])) (n - e)).toList).size = cur.size := over_size _ _ _ (by
      rw [Array.length_toList, size_zeroCells]
      show (e * 2) + (n - e) * 2 ≤ cur.size
      have := Nat.le_trans (Nat.mul_le_mul_right 2 hnc) hcs
      omega)
    have hecs : e * 2 ≤ cur.size := by have := Nat.le_trans (Nat.mul_le_mul_right 2 hnc) hcs; omega
    refine ⟨by rw [List.length_take, hlen]; omega, fun u hu => h.2.1 u (List.mem_of_mem_take hu), .inr ⟨g, e, _, rfl, hbg, hg3, Nat.le_refl _, by unfold maxLen; omega, by rw [hov]; exact hecs, ?_⟩⟩
    unfold over
    rw [← htake]
    simp only [List.take_take]
    rw [List.append_assoc, List.take_append_of_le_length (by rw [List.length_take, Array.length_toList]; omega), List.take_take]
    congr 1
    omega
  have hf23 : Bk w3 q 72 (over cur1 0 (xs.drop (b * 2))) := hq2.fr hf3 (fun e => by omega)
  have HR2 : Hid (RowW w3 w.heap.size 72 2 (.slice (some ⟨q, 0, none⟩) (n - b) (n - b)) (n - b) (xs.drop (b * 2))) := by
    refine ⟨hdl, fun u hu => h.2.1 u (List.mem_of_mem_drop hu), .inr ⟨q, n - b, _, rfl, by omega, hf23, Nat.le_refl _, by unfold maxLen; omega, ?_, ?_⟩⟩
    · rw [over_size _ _ _ (by rw [Nat.zero_add, hdl]; exact Nat.le_of_eq hcs1.symm)]
      exact Nat.le_of_eq hcs1.symm
    · unfold over
      simp only [List.take_zero, List.nil_append]
      rw [← hdl]
      exact List.take_left
  have HFR : Hid (Fr (fun j => j = g) w w3) := ((hf1.mono fun _ _ h => h.elim).step hf2 (fun i hi e => by omega)).trans hf3
  have HQ : Hid (w.heap.size ≤ q) := by show _ ≤ _; omega
  have hw1 : IntKind.i64.wrap ((n : Int) - (b : Int)) = ((n - b : Nat) : Int) := by rw [IntWalk.i64_in _ (by omega)]; omega
  have hsb : ((n : Int) - (b : Int)) = ((n - b : Nat) : Int) := by omega
  have hcb : ¬ (c = b) := by omega
  have hce : ¬ (c = e) := by omega
  have hbn : b ≤ n := by omega
  have hen : e ≤ n := by omega
  have hec : e ≤ c := by omega
  rw [← hqe] at hmk
  try simp only [Nat.mul_one] at HR1 HR2
  clear h ho1 hg1 hf1 hq1 hcs1 hq2 hf2 hg2 hg3 hf3 hf23 hdl hlen hg hcs htake hv1 hqe
  go_enter Try.func63, Try.ntmps63
  go_wp2_with (first | (at_builtin; go_loud (refine wpList_copyI rfl _ _ 64 64 rfl _ _ rfl rfl hcp ?_)) | (at_builtin; go_loud (refine wpList_clearI rfl _ 64 rfl _ rfl hcl ?_)) | fail)
  go_ret2
  exact ⟨q, rfl, HQ.out, HR1.out, HR2.out, HFR.out⟩
theorem zeroPS (w : World) : (zeroValue 63).run Try.prog w = .ok (Value.pointer none) w := by kernel_rfl
theorem sizePS : (Try.prog.info? 63).map (·.size) = some 1 := by kernel_rfl
theorem infoPS : (Try.prog.info? 63).map (fun i => (i.zero, i.size, i.bytes)) = some (some (Value.pointer none), 1, 8) := by kernel_rfl
set_option maxRecDepth 100000 in
set_option maxHeartbeats 1000000 in
theorem cutPS_any (w : World) (base g n c e b : Nat) (xs : List Value) (h : RowW w base 63 1 (.slice (some ⟨g, 0, none⟩) n c) n xs) (he0 : 0 < e) (he : e < n) (hb : b < n) (hn : n ≤ 1000) :
    Calls Try.prog 64 #[.slice (some ⟨g, 0, none⟩) n c, .int .i64 e, .int .i64 b] w fun en w' => ∃ q, en = .returned (.tuple #[.slice (some ⟨g, 0, none⟩) e e, .slice (some ⟨q, 0, none⟩) (n - b) (n - b)]) ∧
      w.heap.size ≤ q ∧ RowW w' base 63 1 (.slice (some ⟨g, 0, none⟩) e e) e (xs.take (e)) ∧ RowW w' w.heap.size 63 1 (.slice (some ⟨q, 0, none⟩) (n - b) (n - b)) (n - b) (xs.drop (b)) ∧ Fr (fun j => j = g) w w' := by
  obtain ⟨i0, hi, hz0, hz1, hz2⟩ := info_parts infoPS
  have HH := Lib.hid h
  rcases h.2.2 with ⟨hv, _⟩ | ⟨g', cap, cur, hv, hbg, hg, hnc, hcm, hcs, htake⟩
  · cases hv
  injection hv with hv1 hv2 hv3
  injection hv1 with hv1
  injection hv1 with hv1
  subst hv1 hv3
  have hgl : g < w.heap.size := (Array.getElem?_eq_some_iff.1 hg).1
  obtain ⟨w1, hmk, ho1, hg1⟩ := run_make_full (P := Try.prog) w w.heap.size 65 63 i0 _ 1 Try.underlying65 hi hz0 hz1 .i64 .i64 (n - b) (by rw [hz2]; omega) (by unfold maxLen; omega) (Nat.le_refl _)
  have hf1 : Fr NoBlk w w1 := (Fr.refl _ _).grown hg1 (fun k h => by cases h)
  rcases ho1.2 with ⟨hv, _⟩ | ⟨q, cap1, cur1, hv, _, hq1, _, _, hcs1, _⟩
  · cases hv
  injection hv with hv1 hv2 hv3
  injection hv1 with hv1
  injection hv1 with hv1
  subst hv3
  have hqe : q = w.heap.size := hv1.symm
  have hlen : xs.length = n * 1 := h.1
  have hdl : (xs.drop (b * 1)).length = (n - b) * 1 := by rw [List.length_drop, hlen, Nat.sub_mul]
  obtain ⟨w2, hcp, hq2, hf2⟩ := run_copyW (P := Try.prog) w1 65 65 3 63 1 q 0 (n - b) (n - b) ⟨g, b, none⟩ (n - b) (c - b) cur1 63 (xs.drop (b * 1)) Try.underlying65 sizePS hq1
    (by rw [hdl]; congr 1; exact (Nat.min_self _).symm)
    (fun j v hj => by
      rw [List.getElem?_drop] at hj
      obtain ⟨b', o', e', hc'⟩ := (h.fr hf1 fun _ _ h => h).rd (by have := (List.getElem?_eq_some_iff.1 hj).1; omega)
      injection e' with e'
      injection e' with e1 e2
      subst e1 e2
      have := hc' _ _ hj
      rw [Nat.zero_add] at this
      unfold Addr.add
      split
      · subst j; simpa using this
      · simpa using this)
    (by rw [Nat.zero_add, hdl]; exact Nat.le_of_eq hcs1.symm) (fun u hu => h.2.1 u (List.mem_of_mem_drop hu))
  rw [show (n - b).min (n - b) = n - b from Nat.min_self _] at hcp
  have hg2 : Bk w2 g 63 cur := (hg.fr hf1 fun h => h).fr hf2 (fun e => by omega)
  obtain ⟨w3, hcl, hg3, hf3⟩ := run_clearW (P := Try.prog) w2 65 63 0 (Value.pointer none) 1 Try.underlying65 zeroPS rfl (by intro u hu; simp only [Value.cells, List.mem_cons, List.not_mem_nil, or_false] at hu; first | (rcases hu with rfl | rfl <;> rfl) | (rw [hu]; rfl))
    g (e) (n - e) (c - e) cur 63 hg2 (by have := Nat.le_trans (Nat.mul_le_mul_right 1 hnc) hcs; omega) (by omega)
  have HR1 : Hid (RowW w3 base 63 1 (.slice (some ⟨g, 0, none⟩) e e) e (xs.take (e * 1))) := by
    have hov : (over cur (e) (Builtin.zeroCells (Value.cells (Value.pointer none)) (n - e)).toList).size = cur.size := over_size _ _ _ (by
      rw [Array.length_toList, size_zeroCells]
      show (e) + (n - e) * 1 ≤ cur.size
      have := Nat.le_trans (Nat.mul_le_mul_right 1 hnc) hcs
      omega)
    have hecs : e * 1 ≤ cur.size := by have := Nat.le_trans (Nat.mul_le_mul_right 1 hnc) hcs; omega
    refine ⟨by rw [List.length_take, hlen]; omega, fun u hu => h.2.1 u (List.mem_of_mem_take hu), .inr ⟨g, e, _, rfl, hbg, hg3, Nat.le_refl _, by unfold maxLen; omega, by rw [hov]; exact hecs, ?_⟩⟩
    unfold over
    rw [← htake]
    simp only [List.take_take]
    rw [List.append_assoc, List.take_append_of_le_length (by rw [List.length_take, Array.length_toList]; omega), List.take_take]
    congr 1
    omega
  have hf23 : Bk w3 q 63 (over cur1 0 (xs.drop (b * 1))) := hq2.fr hf3 (fun e => by omega)
  have HR2 : Hid (RowW w3 w.heap.size 63 1 (.slice (some ⟨q, 0, none⟩) (n - b) (n - b)) (n - b) (xs.drop (b * 1))) := by
    refine ⟨hdl, fun u hu => h.2.1 u (List.mem_of_mem_drop hu), .inr ⟨q, n - b, _, rfl, by omega, hf23, Nat.le_refl _, by unfold maxLen; omega, ?_, ?_⟩⟩
    · rw [over_size _ _ _ (by rw [Nat.zero_add, hdl]; exact Nat.le_of_eq hcs1.symm)]
      exact Nat.le_of_eq hcs1.symm
    · unfold over
      simp only [List.take_zero, List.nil_append]
      rw [← hdl]
      exact List.take_left
  have HFR : Hid (Fr (fun j => j = g) w w3) := ((hf1.mono fun _ _ h => h.elim).step hf2 (fun i hi e => by omega)).trans hf3
  have HQ : Hid (w.heap.size ≤ q) := by show _ ≤ _; omega
  have hw1 : IntKind.i64.wrap ((n : Int) - (b : Int)) = ((n - b : Nat) : Int) := by rw [IntWalk.i64_in _ (by omega)]; omega
  have hsb : ((n : Int) - (b : Int)) = ((n - b : Nat) : Int) := by omega
  have hcb : ¬ (c = b) := by omega
  have hce : ¬ (c = e) := by omega
  have hbn : b ≤ n := by omega
  have hen : e ≤ n := by omega
  have hec : e ≤ c := by omega
  rw [← hqe] at hmk
  try simp only [Nat.mul_one] at HR1 HR2
  clear h ho1 hg1 hf1 hq1 hcs1 hq2 hf2 hg2 hg3 hf3 hf23 hdl hlen hg hcs htake hv1 hqe
  go_enter Try.func64, Try.ntmps64
  go_wp2_with (first | (at_builtin; go_loud (refine wpList_copyI rfl _ _ 65 65 rfl _ _ rfl rfl hcp ?_)) | (at_builtin; go_loud (refine wpList_clearI rfl _ 65 rfl _ rfl hcl ?_)) | fail)
  go_ret2
  exact ⟨q, rfl, HQ.out, HR1.out, HR2.out, HFR.out⟩
theorem zeroIB (w : World) : (zeroValue 90).run Try.prog w = .ok (Value.agg #[.int .i64 0, .bool false]) w := by kernel_rfl
theorem sizeIB : (Try.prog.info? 90).map (·.size) = some 2 := by kernel_rfl
theorem infoIB : (Try.prog.info? 90).map (fun i => (i.zero, i.size, i.bytes)) = some (some (Value.agg #[.int .i64 0, .bool false]), 2, 16) := by kernel_rfl
set_option maxRecDepth 100000 in
set_option maxHeartbeats 1000000 in
theorem cutIB_any (w : World) (base g n c e b : Nat) (xs : List Value) (h : RowW w base 90 2 (.slice (some ⟨g, 0, none⟩) n c) n xs) (he0 : 0 < e) (he : e < n) (hb : b < n) (hn : n ≤ 1000) :
    Calls Try.prog 71 #[.slice (some ⟨g, 0, none⟩) n c, .int .i64 e, .int .i64 b] w fun en w' => ∃ q, en = .returned (.tuple #[.slice (some ⟨g, 0, none⟩) e e, .slice (some ⟨q, 0, none⟩) (n - b) (n - b)]) ∧
      w.heap.size ≤ q ∧ RowW w' base 90 2 (.slice (some ⟨g, 0, none⟩) e e) e (xs.take (e * 2)) ∧ RowW w' w.heap.size 90 2 (.slice (some ⟨q, 0, none⟩) (n - b) (n - b)) (n - b) (xs.drop (b * 2)) ∧ Fr (fun j => j = g) w w' := by
  obtain ⟨i0, hi, hz0, hz1, hz2⟩ := info_parts infoIB
  have HH := Lib.hid h
  rcases h.2.2 with ⟨hv, _⟩ | ⟨g', cap, cur, hv, hbg, hg, hnc, hcm, hcs, htake⟩
  · cases hv
  injection hv with hv1 hv2 hv3
  injection hv1 with hv1
  injection hv1 with hv1
  subst hv1 hv3
  have hgl : g < w.heap.size := (Array.getElem?_eq_some_iff.1 hg).1
  obtain ⟨w1, hmk, ho1, hg1⟩ := run_make_full (P := Try.prog) w w.heap.size 79 90 i0 _ 2 Try.underlying79 hi hz0 hz1 .i64 .i64 (n - b) (by rw [hz2]; omega) (by unfold maxLen; omega) (Nat.le_refl _)
  have hf1 : Fr NoBlk w w1 := (Fr.refl _ _).grown hg1 (fun k h => by cases h)
  rcases ho1.2 with ⟨hv, _⟩ | ⟨q, cap1, cur1, hv, _, hq1, _, _, hcs1, _⟩
  · cases hv
  injection hv with hv1 hv2 hv3
  injection hv1 with hv1
  injection hv1 with hv1
  subst hv3
  have hqe : q = w.heap.size := hv1.symm
  have hlen : xs.length = n * 2 := h.1
  have hdl : (xs.drop (b * 2)).length = (n - b) * 2 := by rw [List.length_drop, hlen, Nat.sub_mul]
  obtain ⟨w2, hcp, hq2, hf2⟩ := run_copyW (P := Try.prog) w1 79 79 3 90 2 q 0 (n - b) (n - b) ⟨g, b * 2, none⟩ (n - b) (c - b) cur1 90 (xs.drop (b * 2)) Try.underlying79 sizeIB hq1
    (by rw [hdl]; congr 1; exact (Nat.min_self _).symm)
    (fun j v hj => by
      rw [List.getElem?_drop] at hj
      obtain ⟨b', o', e', hc'⟩ := (h.fr hf1 fun _ _ h => h).rd (by have := (List.getElem?_eq_some_iff.1 hj).1; omega)
      injection e' with e'
      injection e' with e1 e2
      subst e1 e2
      have := hc' _ _ hj
      rw [Nat.zero_add] at this
      unfold Addr.add
      split
      · subst j; simpa using this
      · simpa using this)
    (by rw [Nat.zero_add, hdl]; exact Nat.le_of_eq hcs1.symm) (fun u hu => h.2.1 u (List.mem_of_mem_drop hu))
  rw [show (n - b).min (n - b) = n - b from Nat.min_self _] at hcp
  have hg2 : Bk w2 g 90 cur := (hg.fr hf1 fun h => h).fr hf2 (fun e => by omega)
  obtain ⟨w3, hcl, hg3, hf3⟩ := run_clearW (P := Try.prog) w2 79 90 0 (Value.agg #[.int .i64 0, .bool false]) 2 Try.underlying79 zeroIB rfl (by intro u hu; simp only [Value.cells, List.mem_cons, List.not_mem_nil, or_false] at hu; first | (rcases hu with rfl | rfl <;> rfl) | (rw [hu]; rfl))
    g (e * 2) (n - e) (c - e) cur 90 hg2 (by have := Nat.le_trans (Nat.mul_le_mul_right 2 hnc) hcs; omega) (by omega)
  have HR1 : Hid (RowW w3 base 90 2 (.slice (some ⟨g, 0, none⟩) e e) e (xs.take (e * 2))) := by
    have hov : (over cur (e * 2) (Builtin.zeroCells (Value.cells (Value.agg #[.int .i64 0, .bool false])) (n - e)).toList).size = cur.size := over_size _ _ _ (by
      rw [Array.length_toList, size_zeroCells]
      show (e * 2) + (n - e) * 2 ≤ cur.size
      have := Nat.le_trans (Nat.mul_le_mul_right 2 hnc) hcs
      omega)
    have hecs : e * 2 ≤ cur.size := by have := Nat.le_trans (Nat.mul_le_mul_right 2 hnc) hcs; omega
    refine ⟨by rw [List.length_take, hlen]; omega, fun u hu => h.2.1 u (List.mem_of_mem_take hu), .inr ⟨g, e, _, rfl, hbg, hg3, Nat.le_refl _, by unfold maxLen; omega, by rw [hov]; exact hecs, ?_⟩⟩
    unfold over
    rw [← htake]
    simp only [List.take_take]
    rw [List.append_assoc, List.take_append_of_le_length (by rw [List.length_take, Array.length_toList]; omega), List.take_take]
    congr 1
    omega
  have hf23 : Bk w3 q 90 (over cur1 0 (xs.drop (b * 2))) := hq2.fr hf3 (fun e => by omega)
  have HR2 : Hid (RowW w3 w.heap.size 90 2 (.slice (some ⟨q, 0, none⟩) (n - b) (n - b)) (n - b) (xs.drop (b * 2))) := by
    refine ⟨hdl, fun u hu => h.2.1 u (List.mem_of_mem_drop hu), .inr ⟨q, n - b, _, rfl, by omega, hf23, Nat.le_refl _, by unfold maxLen; omega, ?_, ?_⟩⟩
    · rw [over_size _ _ _ (by rw [Nat.zero_add, hdl]; exact Nat.le_of_eq hcs1.symm)]
      exact Nat.le_of_eq hcs1.symm
    · unfold over
      simp only [List.take_zero, List.nil_append]
      rw [← hdl]
      exact List.take_left
  have HFR : Hid (Fr (fun j => j = g) w w3) := ((hf1.mono fun _ _ h => h.elim).step hf2 (fun i hi e => by omega)).trans hf3
  have HQ : Hid (w.heap.size ≤ q) := by show _ ≤ _; omega
  have hw1 : IntKind.i64.wrap ((n : Int) - (b : Int)) = ((n - b : Nat) : Int) := by rw [IntWalk.i64_in _ (by omega)]; omega
  have hsb : ((n : Int) - (b : Int)) = ((n - b : Nat) : Int) := by omega
  have hcb : ¬ (c = b) := by omega
  have hce : ¬ (c = e) := by omega
  have hbn : b ≤ n := by omega
  have hen : e ≤ n := by omega
  have hec : e ≤ c := by omega
  rw [← hqe] at hmk
  try simp only [Nat.mul_one] at HR1 HR2
  clear h ho1 hg1 hf1 hq1 hcs1 hq2 hf2 hg2 hg3 hf3 hf23 hdl hlen hg hcs htake hv1 hqe
  go_enter Try.func71, Try.ntmps71
  go_wp2_with (first | (at_builtin; go_loud (refine wpList_copyI rfl _ _ 79 79 rfl _ _ rfl rfl hcp ?_)) | (at_builtin; go_loud (refine wpList_clearI rfl _ 79 rfl _ rfl hcl ?_)) | fail)
  go_ret2
  exact ⟨q, rfl, HQ.out, HR1.out, HR2.out, HFR.out⟩
theorem zeroPB (w : World) : (zeroValue 78).run Try.prog w = .ok (Value.pointer none) w := by kernel_rfl
theorem sizePB : (Try.prog.info? 78).map (·.size) = some 1 := by kernel_rfl
theorem infoPB : (Try.prog.info? 78).map (fun i => (i.zero, i.size, i.bytes)) = some (some (Value.pointer none), 1, 8) := by kernel_rfl
set_option maxRecDepth 100000 in
set_option maxHeartbeats 1000000 in
theorem cutPB_any (w : World) (base g n c e b : Nat) (xs : List Value) (h : RowW w base 78 1 (.slice (some ⟨g, 0, none⟩) n c) n xs) (he0 : 0 < e) (he : e < n) (hb : b < n) (hn : n ≤ 1000) :
    Calls Try.prog 72 #[.slice (some ⟨g, 0, none⟩) n c, .int .i64 e, .int .i64 b] w fun en w' => ∃ q, en = .returned (.tuple #[.slice (some ⟨g, 0, none⟩) e e, .slice (some ⟨q, 0, none⟩) (n - b) (n - b)]) ∧
      w.heap.size ≤ q ∧ RowW w' base 78 1 (.slice (some ⟨g, 0, none⟩) e e) e (xs.take (e)) ∧ RowW w' w.heap.size 78 1 (.slice (some ⟨q, 0, none⟩) (n - b) (n - b)) (n - b) (xs.drop (b)) ∧ Fr (fun j => j = g) w w' := by
  obtain ⟨i0, hi, hz0, hz1, hz2⟩ := info_parts infoPB
  have HH := Lib.hid h
  rcases h.2.2 with ⟨hv, _⟩ | ⟨g', cap, cur, hv, hbg, hg, hnc, hcm, hcs, htake⟩
  · cases hv
  injection hv with hv1 hv2 hv3
  injection hv1 with hv1
  injection hv1 with hv1
  subst hv1 hv3
  have hgl : g < w.heap.size := (Array.getElem?_eq_some_iff.1 hg).1
  obtain ⟨w1, hmk, ho1, hg1⟩ := run_make_full (P := Try.prog) w w.heap.size 80 78 i0 _ 1 Try.underlying80 hi hz0 hz1 .i64 .i64 (n - b) (by rw [hz2]; omega) (by unfold maxLen; omega) (Nat.le_refl _)
  have hf1 : Fr NoBlk w w1 := (Fr.refl _ _).grown hg1 (fun k h => by cases h)
  rcases ho1.2 with ⟨hv, _⟩ | ⟨q, cap1, cur1, hv, _, hq1, _, _, hcs1, _⟩
  · cases hv
  injection hv with hv1 hv2 hv3
  injection hv1 with hv1
  injection hv1 with hv1
  subst hv3
  have hqe : q = w.heap.size := hv1.symm
  have hlen : xs.length = n * 1 := h.1
  have hdl : (xs.drop (b * 1)).length = (n - b) * 1 := by rw [List.length_drop, hlen, Nat.sub_mul]
  obtain ⟨w2, hcp, hq2, hf2⟩ := run_copyW (P := Try.prog) w1 80 80 3 78 1 q 0 (n - b) (n - b) ⟨g, b, none⟩ (n - b) (c - b) cur1 78 (xs.drop (b * 1)) Try.underlying80 sizePB hq1
    (by rw [hdl]; congr 1; exact (Nat.min_self _).symm)
    (fun j v hj => by
      rw [List.getElem?_drop] at hj
      obtain ⟨b', o', e', hc'⟩ := (h.fr hf1 fun _ _ h => h).rd (by have := (List.getElem?_eq_some_iff.1 hj).1; omega)
      injection e' with e'
      injection e' with e1 e2
      subst e1 e2
      have := hc' _ _ hj
      rw [Nat.zero_add] at this
      unfold Addr.add
      split
      · subst j; simpa using this
      · simpa using this)
    (by rw [Nat.zero_add, hdl]; exact Nat.le_of_eq hcs1.symm) (fun u hu => h.2.1 u (List.mem_of_mem_drop hu))
  rw [show (n - b).min (n - b) = n - b from Nat.min_self _] at hcp
  have hg2 : Bk w2 g 78 cur := (hg.fr hf1 fun h => h).fr hf2 (fun e => by omega)
  obtain ⟨w3, hcl, hg3, hf3⟩ := run_clearW (P := Try.prog) w2 80 78 0 (Value.pointer none) 1 Try.underlying80 zeroPB rfl (by intro u hu; simp only [Value.cells, List.mem_cons, List.not_mem_nil, or_false] at hu; first | (rcases hu with rfl | rfl <;> rfl) | (rw [hu]; rfl))
    g (e) (n - e) (c - e) cur 78 hg2 (by have := Nat.le_trans (Nat.mul_le_mul_right 1 hnc) hcs; omega) (by omega)
  have HR1 : Hid (RowW w3 base 78 1 (.slice (some ⟨g, 0, none⟩) e e) e (xs.take (e * 1))) := by
    have hov : (over cur (e) (Builtin.zeroCells (Value.cells (Value.pointer none)) (n - e)).toList).size = cur.size := over_size _ _ _ (by
      rw [Array.length_toList, size_zeroCells]
      show (e) + (n - e) * 1 ≤ cur.size
      have := Nat.le_trans (Nat.mul_le_mul_right 1 hnc) hcs
      omega)
    have hecs : e * 1 ≤ cur.size := by have := Nat.le_trans (Nat.mul_le_mul_right 1 hnc) hcs; omega
    refine ⟨by rw [List.length_take, hlen]; omega, fun u hu => h.2.1 u (List.mem_of_mem_take hu), .inr ⟨g, e, _, rfl, hbg, hg3, Nat.le_refl _, by unfold maxLen; omega, by rw [hov]; exact hecs, ?_⟩⟩
    unfold over
    rw [← htake]
    simp only [List.take_take]
    rw [List.append_assoc, List.take_append_of_le_length (by rw [List.length_take, Array.length_toList]; omega), List.take_take]
    congr 1
    omega
  have hf23 : Bk w3 q 78 (over cur1 0 (xs.drop (b * 1))) := hq2.fr hf3 (fun e => by omega)
  have HR2 : Hid (RowW w3 w.heap.size 78 1 (.slice (some ⟨q, 0, none⟩) (n - b) (n - b)) (n - b) (xs.drop (b * 1))) := by
    refine ⟨hdl, fun u hu => h.2.1 u (List.mem_of_mem_drop hu), .inr ⟨q, n - b, _, rfl, by omega, hf23, Nat.le_refl _, by unfold maxLen; omega, ?_, ?_⟩⟩
    · rw [over_size _ _ _ (by rw [Nat.zero_add, hdl]; exact Nat.le_of_eq hcs1.symm)]
      exact Nat.le_of_eq hcs1.symm
    · unfold over
      simp only [List.take_zero, List.nil_append]
      rw [← hdl]
      exact List.take_left
  have HFR : Hid (Fr (fun j => j = g) w w3) := ((hf1.mono fun _ _ h => h.elim).step hf2 (fun i hi e => by omega)).trans hf3
  have HQ : Hid (w.heap.size ≤ q) := by show _ ≤ _; omega
  have hw1 : IntKind.i64.wrap ((n : Int) - (b : Int)) = ((n - b : Nat) : Int) := by rw [IntWalk.i64_in _ (by omega)]; omega
  have hsb : ((n : Int) - (b : Int)) = ((n - b : Nat) : Int) := by omega
  have hcb : ¬ (c = b) := by omega
  have hce : ¬ (c = e) := by omega
  have hbn : b ≤ n := by omega
  have hen : e ≤ n := by omega
  have hec : e ≤ c := by omega
  rw [← hqe] at hmk
  try simp only [Nat.mul_one] at HR1 HR2
  clear h ho1 hg1 hf1 hq1 hcs1 hq2 hf2 hg2 hg3 hf3 hf23 hdl hlen hg hcs htake hv1 hqe
  go_enter Try.func72, Try.ntmps72
  go_wp2_with (first | (at_builtin; go_loud (refine wpList_copyI rfl _ _ 80 80 rfl _ _ rfl rfl hcp ?_)) | (at_builtin; go_loud (refine wpList_clearI rfl _ 80 rfl _ rfl hcl ?_)) | fail)
  go_ret2
  exact ⟨q, rfl, HQ.out, HR1.out, HR2.out, HFR.out⟩
theorem zeroIN (w : World) : (zeroValue 131).run Try.prog w = .ok (Value.agg #[.int .i64 0, .int .i64 0]) w := by kernel_rfl
theorem sizeIN : (Try.prog.info? 131).map (·.size) = some 2 := by kernel_rfl
theorem infoIN : (Try.prog.info? 131).map (fun i => (i.zero, i.size, i.bytes)) = some (some (Value.agg #[.int .i64 0, .int .i64 0]), 2, 16) := by kernel_rfl
set_option maxRecDepth 100000 in
set_option maxHeartbeats 1000000 in
theorem cutIN_any (w : World) (base g n c e b : Nat) (xs : List Value) (h : RowW w base 131 2 (.slice (some ⟨g, 0, none⟩) n c) n xs) (he0 : 0 < e) (he : e < n) (hb : b < n) (hn : n ≤ 1000) :
    Calls Try.prog 85 #[.slice (some ⟨g, 0, none⟩) n c, .int .i64 e, .int .i64 b] w fun en w' => ∃ q, en = .returned (.tuple #[.slice (some ⟨g, 0, none⟩) e e, .slice (some ⟨q, 0, none⟩) (n - b) (n - b)]) ∧
      w.heap.size ≤ q ∧ RowW w' base 131 2 (.slice (some ⟨g, 0, none⟩) e e) e (xs.take (e * 2)) ∧ RowW w' w.heap.size 131 2 (.slice (some ⟨q, 0, none⟩) (n - b) (n - b)) (n - b) (xs.drop (b * 2)) ∧ Fr (fun j => j = g) w w' := by
  obtain ⟨i0, hi, hz0, hz1, hz2⟩ := info_parts infoIN
  have HH := Lib.hid h
  rcases h.2.2 with ⟨hv, _⟩ | ⟨g', cap, cur, hv, hbg, hg, hnc, hcm, hcs, htake⟩
  · cases hv
  injection hv with hv1 hv2 hv3
  injection hv1 with hv1
  injection hv1 with hv1
  subst hv1 hv3
  have hgl : g < w.heap.size := (Array.getElem?_eq_some_iff.1 hg).1
  obtain ⟨w1, hmk, ho1, hg1⟩ := run_make_full (P := Try.prog) w w.heap.size 92 131 i0 _ 2 Try.underlying92 hi hz0 hz1 .i64 .i64 (n - b) (by rw [hz2]; omega) (by unfold maxLen; omega) (Nat.le_refl _)
  have hf1 : Fr NoBlk w w1 := (Fr.refl _ _).grown hg1 (fun k h => by cases h)
  rcases ho1.2 with ⟨hv, _⟩ | ⟨q, cap1, cur1, hv, _, hq1, _, _, hcs1, _⟩
  · cases hv
  injection hv with hv1 hv2 hv3
  injection hv1 with hv1
  injection hv1 with hv1
  subst hv3
  have hqe : q = w.heap.size := hv1.symm
  have hlen : xs.length = n * 2 := h.1
  have hdl : (xs.drop (b * 2)).length = (n - b) * 2 := by rw [List.length_drop, hlen, Nat.sub_mul]
  obtain ⟨w2, hcp, hq2, hf2⟩ := run_copyW (P := Try.prog) w1 92 92 3 131 2 q 0 (n - b) (n - b) ⟨g, b * 2, none⟩ (n - b) (c - b) cur1 131 (xs.drop (b * 2)) Try.underlying92 sizeIN hq1
    (by rw [hdl]; congr 1; exact (Nat.min_self _).symm)
    (fun j v hj => by
      rw [List.getElem?_drop] at hj
      obtain ⟨b', o', e', hc'⟩ := (h.fr hf1 fun _ _ h => h).rd (by have := (List.getElem?_eq_some_iff.1 hj).1; omega)
      injection e' with e'
      injection e' with e1 e2
      subst e1 e2
      have := hc' _ _ hj
      rw [Nat.zero_add] at this
      unfold Addr.add
      split
      · subst j; simpa using this
      · simpa using this)
    (by rw [Nat.zero_add, hdl]; exact Nat.le_of_eq hcs1.symm) (fun u hu => h.2.1 u (List.mem_of_mem_drop hu))
  rw [show (n - b).min (n - b) = n - b from Nat.min_self _] at hcp
  have hg2 : Bk w2 g 131 cur := (hg.fr hf1 fun h => h).fr hf2 (fun e => by omega)
  obtain ⟨w3, hcl, hg3, hf3⟩ := run_clearW (P := Try.prog) w2 92 131 0 (Value.agg #[.int .i64 0, .int .i64 0]) 2 Try.underlying92 zeroIN rfl (by intro u hu; simp only [Value.cells, List.mem_cons, List.not_mem_nil, or_false] at hu; first | (rcases hu with rfl | rfl <;> rfl) | (rw [hu]; rfl))
    g (e * 2) (n - e) (c - e) cur 131 hg2 (by have := Nat.le_trans (Nat.mul_le_mul_right 2 hnc) hcs; omega) (by omega)
  have HR1 : Hid (RowW w3 base 131 2 (.slice (some ⟨g, 0, none⟩) e e) e (xs.take (e * 2))) := by
    have hov : (over cur (e * 2) (Builtin.zeroCells (Value.cells (Value.agg #[.int .i64 0, .int .i64 0])) (n - e)).toList).size = cur.size := over_size _ _ _ (by
      rw [Array.length_toList, size_zeroCells]
      show (e * 2) + (n - e) * 2 ≤ cur.size
      have := Nat.le_trans (Nat.mul_le_mul_right 2 hnc) hcs
      omega)
    have hecs : e * 2 ≤ cur.size := by have := Nat.le_trans (Nat.mul_le_mul_right 2 hnc) hcs; omega
    refine ⟨by rw [List.length_take, hlen]; omega, fun u hu => h.2.1 u (List.mem_of_mem_take hu), .inr ⟨g, e, _, rfl, hbg, hg3, Nat.le_refl _, by unfold maxLen; omega, by rw [hov]; exact hecs, ?_⟩⟩
    unfold over
    rw [← htake]
    simp only [List.take_take]
    rw [List.append_assoc, List.take_append_of_le_length (by rw [List.length_take, Array.length_toList]; omega), List.take_take]
    congr 1
    omega
  have hf23 : Bk w3 q 131 (over cur1 0 (xs.drop (b * 2))) := hq2.fr hf3 (fun e => by omega)
  have HR2 : Hid (RowW w3 w.heap.size 131 2 (.slice (some ⟨q, 0, none⟩) (n - b) (n - b)) (n - b) (xs.drop (b * 2))) := by
    refine ⟨hdl, fun u hu => h.2.1 u (List.mem_of_mem_drop hu), .inr ⟨q, n - b, _, rfl, by omega, hf23, Nat.le_refl _, by unfold maxLen; omega, ?_, ?_⟩⟩
    · rw [over_size _ _ _ (by rw [Nat.zero_add, hdl]; exact Nat.le_of_eq hcs1.symm)]
      exact Nat.le_of_eq hcs1.symm
    · unfold over
      simp only [List.take_zero, List.nil_append]
      rw [← hdl]
      exact List.take_left
  have HFR : Hid (Fr (fun j => j = g) w w3) := ((hf1.mono fun _ _ h => h.elim).step hf2 (fun i hi e => by omega)).trans hf3
  have HQ : Hid (w.heap.size ≤ q) := by show _ ≤ _; omega
  have hw1 : IntKind.i64.wrap ((n : Int) - (b : Int)) = ((n - b : Nat) : Int) := by rw [IntWalk.i64_in _ (by omega)]; omega
  have hsb : ((n : Int) - (b : Int)) = ((n - b : Nat) : Int) := by omega
  have hcb : ¬ (c = b) := by omega
  have hce : ¬ (c = e) := by omega
  have hbn : b ≤ n := by omega
  have hen : e ≤ n := by omega
  have hec : e ≤ c := by omega
  rw [← hqe] at hmk
  try simp only [Nat.mul_one] at HR1 HR2
  clear h ho1 hg1 hf1 hq1 hcs1 hq2 hf2 hg2 hg3 hf3 hf23 hdl hlen hg hcs htake hv1 hqe
  go_enter Try.func85, Try.ntmps85
  go_wp2_with (first | (at_builtin; go_loud (refine wpList_copyI rfl _ _ 92 92 rfl _ _ rfl rfl hcp ?_)) | (at_builtin; go_loud (refine wpList_clearI rfl _ 92 rfl _ rfl hcl ?_)) | fail)
  go_ret2
  exact ⟨q, rfl, HQ.out, HR1.out, HR2.out, HFR.out⟩
theorem zeroPN (w : World) : (zeroValue 91).run Try.prog w = .ok (Value.pointer none) w := by kernel_rfl
theorem sizePN : (Try.prog.info? 91).map (·.size) = some 1 := by kernel_rfl
theorem infoPN : (Try.prog.info? 91).map (fun i => (i.zero, i.size, i.bytes)) = some (some (Value.pointer none), 1, 8) := by kernel_rfl
set_option maxRecDepth 100000 in
set_option maxHeartbeats 1000000 in
theorem cutPN_any (w : World) (base g n c e b : Nat) (xs : List Value) (h : RowW w base 91 1 (.slice (some ⟨g, 0, none⟩) n c) n xs) (he0 : 0 < e) (he : e < n) (hb : b < n) (hn : n ≤ 1000) :
    Calls Try.prog 86 #[.slice (some ⟨g, 0, none⟩) n c, .int .i64 e, .int .i64 b] w fun en w' => ∃ q, en = .returned (.tuple #[.slice (some ⟨g, 0, none⟩) e e, .slice (some ⟨q, 0, none⟩) (n - b) (n - b)]) ∧
      w.heap.size ≤ q ∧ RowW w' base 91 1 (.slice (some ⟨g, 0, none⟩) e e) e (xs.take (e)) ∧ RowW w' w.heap.size 91 1 (.slice (some ⟨q, 0, none⟩) (n - b) (n - b)) (n - b) (xs.drop (b)) ∧ Fr (fun j => j = g) w w' := by
  obtain ⟨i0, hi, hz0, hz1, hz2⟩ := info_parts infoPN
  have HH := Lib.hid h
  rcases h.2.2 with ⟨hv, _⟩ | ⟨g', cap, cur, hv, hbg, hg, hnc, hcm, hcs, htake⟩
  · cases hv
  injection hv with hv1 hv2 hv3
  injection hv1 with hv1
  injection hv1 with hv1
  subst hv1 hv3
  have hgl : g < w.heap.size := (Array.getElem?_eq_some_iff.1 hg).1
  obtain ⟨w1, hmk, ho1, hg1⟩ := run_make_full (P := Try.prog) w w.heap.size 93 91 i0 _ 1 Try.underlying93 hi hz0 hz1 .i64 .i64 (n - b) (by rw [hz2]; omega) (by unfold maxLen; omega) (Nat.le_refl _)
  have hf1 : Fr NoBlk w w1 := (Fr.refl _ _).grown hg1 (fun k h => by cases h)
  rcases ho1.2 with ⟨hv, _⟩ | ⟨q, cap1, cur1, hv, _, hq1, _, _, hcs1, _⟩
  · cases hv
  injection hv with hv1 hv2 hv3
  injection hv1 with hv1
  injection hv1 with hv1
  subst hv3
  have hqe : q = w.heap.size := hv1.symm
  have hlen : xs.length = n * 1 := h.1
  have hdl : (xs.drop (b * 1)).length = (n - b) * 1 := by rw [List.length_drop, hlen, Nat.sub_mul]
  obtain ⟨w2, hcp, hq2, hf2⟩ := run_copyW (P := Try.prog) w1 93 93 3 91 1 q 0 (n - b) (n - b) ⟨g, b, none⟩ (n - b) (c - b) cur1 91 (xs.drop (b * 1)) Try.underlying93 sizePN hq1
    (by rw [hdl]; congr 1; exact (Nat.min_self _).symm)
    (fun j v hj => by
      rw [List.getElem?_drop] at hj
      obtain ⟨b', o', e', hc'⟩ := (h.fr hf1 fun _ _ h => h).rd (by have := (List.getElem?_eq_some_iff.1 hj).1; omega)
      injection e' with e'
      injection e' with e1 e2
      subst e1 e2
      have := hc' _ _ hj
      rw [Nat.zero_add] at this
      unfold Addr.add
      split
      · subst j; simpa using this
      · simpa using this)
    (by rw [Nat.zero_add, hdl]; exact Nat.le_of_eq hcs1.symm) (fun u hu => h.2.1 u (List.mem_of_mem_drop hu))
  rw [show (n - b).min (n - b) = n - b from Nat.min_self _] at hcp
  have hg2 : Bk w2 g 91 cur := (hg.fr hf1 fun h => h).fr hf2 (fun e => by omega)
  obtain ⟨w3, hcl, hg3, hf3⟩ := run_clearW (P := Try.prog) w2 93 91 0 (Value.pointer none) 1 Try.underlying93 zeroPN rfl (by intro u hu; simp only [Value.cells, List.mem_cons, List.not_mem_nil, or_false] at hu; first | (rcases hu with rfl | rfl <;> rfl) | (rw [hu]; rfl))
    g (e) (n - e) (c - e) cur 91 hg2 (by have := Nat.le_trans (Nat.mul_le_mul_right 1 hnc) hcs; omega) (by omega)
  have HR1 : Hid (RowW w3 base 91 1 (.slice (some ⟨g, 0, none⟩) e e) e (xs.take (e * 1))) := by
    have hov : (over cur (e) (Builtin.zeroCells (Value.cells (Value.pointer none)) (n - e)).toList).size = cur.size := over_size _ _ _ (by
      rw [Array.length_toList, size_zeroCells]
      show (e) + (n - e) * 1 ≤ cur.size
      have := Nat.le_trans (Nat.mul_le_mul_right 1 hnc) hcs
      omega)
    have hecs : e * 1 ≤ cur.size := by have := Nat.le_trans (Nat.mul_le_mul_right 1 hnc) hcs; omega
    refine ⟨by rw [List.length_take, hlen]; omega, fun u hu => h.2.1 u (List.mem_of_mem_take hu), .inr ⟨g, e, _, rfl, hbg, hg3, Nat.le_refl _, by unfold maxLen; omega, by rw [hov]; exact hecs, ?_⟩⟩
    unfold over
    rw [← htake]
    simp only [List.take_take]
    rw [List.append_assoc, List.take_append_of_le_length (by rw [List.length_take, Array.length_toList]; omega), List.take_take]
    congr 1
    omega
  have hf23 : Bk w3 q 91 (over cur1 0 (xs.drop (b * 1))) := hq2.fr hf3 (fun e => by omega)
  have HR2 : Hid (RowW w3 w.heap.size 91 1 (.slice (some ⟨q, 0, none⟩) (n - b) (n - b)) (n - b) (xs.drop (b * 1))) := by
    refine ⟨hdl, fun u hu => h.2.1 u (List.mem_of_mem_drop hu), .inr ⟨q, n - b, _, rfl, by omega, hf23, Nat.le_refl _, by unfold maxLen; omega, ?_, ?_⟩⟩
    · rw [over_size _ _ _ (by rw [Nat.zero_add, hdl]; exact Nat.le_of_eq hcs1.symm)]
      exact Nat.le_of_eq hcs1.symm
    · unfold over
      simp only [List.take_zero, List.nil_append]
      rw [← hdl]
      exact List.take_left
  have HFR : Hid (Fr (fun j => j = g) w w3) := ((hf1.mono fun _ _ h => h.elim).step hf2 (fun i hi e => by omega)).trans hf3
  have HQ : Hid (w.heap.size ≤ q) := by show _ ≤ _; omega
  have hw1 : IntKind.i64.wrap ((n : Int) - (b : Int)) = ((n - b : Nat) : Int) := by rw [IntWalk.i64_in _ (by omega)]; omega
  have hsb : ((n : Int) - (b : Int)) = ((n - b : Nat) : Int) := by omega
  have hcb : ¬ (c = b) := by omega
  have hce : ¬ (c = e) := by omega
  have hbn : b ≤ n := by omega
  have hen : e ≤ n := by omega
  have hec : e ≤ c := by omega
  rw [← hqe] at hmk
  try simp only [Nat.mul_one] at HR1 HR2
  clear h ho1 hg1 hf1 hq1 hcs1 hq2 hf2 hg2 hg3 hf3 hf23 hdl hlen hg hcs htake hv1 hqe
  go_enter Try.func86, Try.ntmps86
  go_wp2_with (first | (at_builtin; go_loud (refine wpList_copyI rfl _ _ 93 93 rfl _ _ rfl rfl hcp ?_)) | (at_builtin; go_loud (refine wpList_clearI rfl _ 93 rfl _ rfl hcl ?_)) | fail)
  go_ret2
  exact ⟨q, rfl, HQ.out, HR1.out, HR2.out, HFR.out⟩
end Go.Proofs.Ytcpgonioobgpoaa
