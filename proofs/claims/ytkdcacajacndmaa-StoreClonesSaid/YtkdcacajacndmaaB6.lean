/- slices.Delete of one element. Conditions: at most 1000 elements. -/
import Derived.Test.YtkdcacajacndmaaB5
import Derived.Deep.RegionLaw
namespace Go.Proofs.Ytkdcacajacndmaa
open Go.RowKit

theorem step_appI {P : Program} {w : World} {ops : Array Oper} {o : Oper} {a : Act} {K : Act → World → Prop} {Q : Exit → Act → World → Prop} {E : Prop} (hgd : o.guard = none) (s x : Operand) (t t' : TypeId)
    (ho : o.op = .call { callee := .builtin .append, args := #[s, x], argTypes := #[t, t'] }) (v u : Value) (hs : a.eval s = v) (hx : a.eval x = u) {v' : Value} {w' : World}
    (hr : (Builtin.append_ #[t, t'] o.type #[v, u]).run P w = .ok v' w') (h : K (a.put o.dst v') w') :
    if Region.wanted o (yielded ops a.tmps) = true then Oper.wp P o a w K Q else E := by
  have hw : Region.wanted o (yielded ops a.tmps) = true := by simp [Region.wanted, hgd]
  rw [if_pos hw]
  unfold Oper.wp execOp
  simp only [ho, resolve, invoke, builtin, Sem.run_bind, Sem.run_pure, Result.andThen_ok, List.map_toArray, List.map_cons, List.map_nil, hs, hx, hr]
  exact h
set_option maxRecDepth 100000 in
set_option maxHeartbeats 1000000 in
theorem delIR_any (w : World) (base g n c i : Nat) (xs : List Value) (h : RowW w base 124 5 (.slice (some ⟨g, 0, none⟩) n c) n xs) (hin : i < n) (hn : n ≤ 1000) :
    Calls Try.prog 90 #[.slice (some ⟨g, 0, none⟩) n c, .int .i64 i, .int .i64 ((i : Int) + 1)] w fun en w' => en = .returned (.slice (some ⟨g, 0, none⟩) (n - 1) c) ∧
      RowW w' base 124 5 (.slice (some ⟨g, 0, none⟩) (n - 1) c) (n - 1) (xs.take (i * 5) ++ xs.drop ((i + 1) * 5)) ∧ Fr (fun j => j = g) w w' := by
  obtain ⟨i0, hi, hz0, hz1, hz2⟩ := info_parts infoIR
  rcases h.2.2 with ⟨hv, _⟩ | ⟨g', cap, cur, hv, hbg, hg, hnc, hcm, hcs, htake⟩
  · cases hv
  injection hv with hv1 hv2 hv3
  injection hv1 with hv1
  injection hv1 with hv1
  subst hv1 hv3
  have hlen : xs.length = n * 5 := h.1
  obtain ⟨m, hm⟩ : ∃ m, m = n - 1 := ⟨_, rfl⟩
  have hcs2 := Nat.le_trans (Nat.mul_le_mul_right 5 hnc) hcs
  have hdl : (xs.drop ((i + 1) * 5)).length = (n - (i + 1)) * 5 := by rw [List.length_drop, hlen]; omega
  obtain ⟨a2, ha2⟩ : ∃ a2 : Addr, a2 = if c = i + 1 then ⟨g, 0, none⟩ else ⟨g, (i + 1) * 5, none⟩ := ⟨_, rfl⟩
  have hrun := run_append_room (P := Try.prog) w.drew 99 99 124 i0 Try.underlying99 hi g i c cur hg a2 (n - (i + 1)) (c - (i + 1)) (xs.drop ((i + 1) * 5)) (by rw [hz1]; exact hdl)
    (fun j v hj => by
      have hj0 := (List.getElem?_eq_some_iff.1 hj).1
      rw [hdl] at hj0
      rw [ha2, if_neg (by omega)]
      rw [List.getElem?_drop] at hj
      obtain ⟨b', o', e', hc'⟩ := h.rd (by have := (List.getElem?_eq_some_iff.1 hj).1; omega)
      injection e' with e'
      injection e' with e1 e2
      subst e1 e2
      have := hc' _ _ hj
      rw [Nat.zero_add] at this
      show w.cell? _ = _
      unfold Addr.add
      split
      · subst j; simpa using this
      · simpa using this)
    (fun u hu => h.2.1 u (List.mem_of_mem_drop hu)) (by omega) (by rw [hz1, hdl]; omega)
  rw [show i + (n - (i + 1)) = m by omega, hz1] at hrun
  obtain ⟨w2, hw2⟩ : ∃ w2, w2 = w.drew.setRow g (over cur (i * 5) (xs.drop ((i + 1) * 5))) := ⟨_, rfl⟩
  have hB2 : Bk w2 g 124 (over cur (i * 5) (xs.drop ((i + 1) * 5))) := by rw [hw2]; exact setRow_heap w.drew g cur _ _ _ hg
  have hf2 : Fr (fun j => j = g) w w2 := by rw [hw2]; exact ((Fr.refl (fun j => j = g) w).drew).trans (setRow_fr w.drew g _)
  have hos : (over cur (i * 5) (xs.drop ((i + 1) * 5))).size = cur.size := over_size _ _ _ (by rw [hdl]; omega)
  unfold over at hw2
  rw [← hw2] at hrun
  clear hw2
  obtain ⟨w3, hcl, hB3, hf3⟩ := run_clearW (P := Try.prog) w2 99 124 0 (Value.agg #[(Value.string { data := #[] }), .bool false, .slice none 0 0, .int .i64 0, .int .u64 0]) 5 Try.underlying99 zeroIR rfl (by intro u hu; simp only [Value.cells, List.mem_cons, List.not_mem_nil, or_false] at hu; first | (rcases hu with rfl | rfl | rfl | rfl | rfl <;> rfl) | (rw [hu]; rfl))
    g (m * 5) (n - m) (c - m) _ 124 hB2 (by rw [hos]; omega) (by omega)
  have hoz : (over (over cur (i * 5) (xs.drop ((i + 1) * 5))) (m * 5) (Builtin.zeroCells (Value.cells (Value.agg #[(Value.string { data := #[] }), .bool false, .slice none 0 0, .int .i64 0, .int .u64 0])) (n - m)).toList).size = cur.size := by
    rw [over_size _ _ _ (by rw [Array.length_toList, size_zeroCells, hos]; show (m * 5) + (n - m) * 5 ≤ cur.size; omega), hos]
  have hnl : (xs.take (i * 5) ++ xs.drop ((i + 1) * 5)).length = m * 5 := by rw [List.length_append, List.length_take, hdl, hlen]; omega
  have HR : Hid (RowW w3 base 124 5 (.slice (some ⟨g, 0, none⟩) m c) m (xs.take (i * 5) ++ xs.drop ((i + 1) * 5))) := by
    refine ⟨hnl, fun u hu => ?_, .inr ⟨g, c, _, rfl, hbg, hB3, by omega, hcm, by rw [hoz]; exact hcs, ?_⟩⟩
    · rcases List.mem_append.1 hu with h' | h'
      · exact h.2.1 u (List.mem_of_mem_take h')
      · exact h.2.1 u (List.mem_of_mem_drop h')
    · have e1 : cur.toList.take (i * 5) = xs.take (i * 5) := by
        rw [← htake, List.take_take]
        congr 1
        omega
      have e2 : (m * 5) = (xs.take (i * 5) ++ xs.drop ((i + 1) * 5)).length := by rw [hnl]; try omega
      unfold over
      simp only []
      rw [e1]
      rw [List.append_assoc, List.take_append_of_le_length (by rw [List.length_take, List.length_append, List.length_append, ← List.length_append, hnl]; omega), List.take_take]
      rw [show min (m * 5) (m * 5) = (xs.take (i * 5) ++ xs.drop ((i + 1) * 5)).length by rw [hnl]; omega]
      exact List.take_left
  have HFR : Hid (Fr (fun j => j = g) w w3) := hf2.trans hf3
  have hmn : m + 1 = n := by omega
  have hmc : ¬ (c = m) := by omega
  have hmi : (m : Int) ≤ (n : Int) := by omega
  have hic : ¬ (c = i) := by omega
  have hwi : IntKind.i64.wrap ((i : Int) + 1) = (i : Int) + 1 := IntWalk.i64_in _ (by omega)
  have hne : ((i : Int) == (i : Int) + 1) = false := beq_eq_false_iff_ne.2 (by omega)
  have hne2 : ¬ ((i : Int) = (i : Int) + 1) := by omega
  have htn : ((i : Int) + 1).toNat = i + 1 := by omega
  have hz0' : (0 : Int) ≤ (i : Int) + 1 := by omega
  have hle : (i : Int) + 1 ≤ (n : Int) := by omega
  have hlc : (i : Int) + 1 ≤ (c : Int) := by omega
  have hii : (i : Int) ≤ (i : Int) + 1 := by omega
  rw [← hm]
  clear h hg hcs htake hlen hdl hcs2 hB2 hf2 hos hB3 hf3 hoz hnl hm hcm
  go_enter Try.func90, Try.ntmps90
  by_cases hci : c = i + 1
  · rw [if_pos hci] at ha2
    subst ha2
    subst hci
    obtain rfl : n = i + 1 := by omega
    obtain rfl : m = i := by omega
    simp only [Nat.sub_self, Nat.add_sub_cancel_left] at hrun hcl
    have hi1 : m ≤ m + 1 := by omega
    go_wp2_with fail
    go_region_law (refine step_appI rfl _ _ 99 99 rfl _ _ (by simp [Act.eval, Act.put]) (by simp [Act.eval, Act.put]) hrun ?_)
    go_wp2_with (at_builtin; go_loud (refine wpList_clearI rfl _ 99 rfl _ rfl hcl ?_))
    go_ret
    exact ⟨rfl, HR.out, HFR.out⟩
  · rw [if_neg hci] at ha2
    have hi1 : i ≤ c := by omega
    have hi2 : i + 1 ≤ n := by omega
    subst ha2
    go_wp2_with fail
    go_region_law (refine step_appI rfl _ _ 99 99 rfl _ _ (by simp [Act.eval, Act.put]) (by simp [Act.eval, Act.put]) hrun ?_)
    go_wp2_with (at_builtin; go_loud (refine wpList_clearI rfl _ 99 rfl _ rfl hcl ?_))
    go_ret
    exact ⟨rfl, HR.out, HFR.out⟩
set_option maxRecDepth 100000 in
set_option maxHeartbeats 1000000 in
theorem delPR_any (w : World) (base g n c i : Nat) (xs : List Value) (h : RowW w base 98 1 (.slice (some ⟨g, 0, none⟩) n c) n xs) (hin : i < n) (hn : n ≤ 1000) :
    Calls Try.prog 103 #[.slice (some ⟨g, 0, none⟩) n c, .int .i64 i, .int .i64 ((i : Int) + 1)] w fun en w' => en = .returned (.slice (some ⟨g, 0, none⟩) (n - 1) c) ∧
      RowW w' base 98 1 (.slice (some ⟨g, 0, none⟩) (n - 1) c) (n - 1) (xs.take (i) ++ xs.drop (i + 1)) ∧ Fr (fun j => j = g) w w' := by
  obtain ⟨i0, hi, hz0, hz1, hz2⟩ := info_parts infoPR
  rcases h.2.2 with ⟨hv, _⟩ | ⟨g', cap, cur, hv, hbg, hg, hnc, hcm, hcs, htake⟩
  · cases hv
  injection hv with hv1 hv2 hv3
  injection hv1 with hv1
  injection hv1 with hv1
  subst hv1 hv3
  have hlen : xs.length = n * 1 := h.1
  obtain ⟨m, hm⟩ : ∃ m, m = n - 1 := ⟨_, rfl⟩
  have hcs2 := Nat.le_trans (Nat.mul_le_mul_right 1 hnc) hcs
  have hdl : (xs.drop (i + 1)).length = (n - (i + 1)) * 1 := by rw [List.length_drop, hlen]; omega
  obtain ⟨a2, ha2⟩ : ∃ a2 : Addr, a2 = if c = i + 1 then ⟨g, 0, none⟩ else ⟨g, i + 1, none⟩ := ⟨_, rfl⟩
  have hrun := run_append_room (P := Try.prog) w.drew 100 100 98 i0 Try.underlying100 hi g i c cur hg a2 (n - (i + 1)) (c - (i + 1)) (xs.drop (i + 1)) (by rw [hz1]; exact hdl)
    (fun j v hj => by
      have hj0 := (List.getElem?_eq_some_iff.1 hj).1
      rw [hdl] at hj0
      rw [ha2, if_neg (by omega)]
      rw [List.getElem?_drop] at hj
      obtain ⟨b', o', e', hc'⟩ := h.rd (by have := (List.getElem?_eq_some_iff.1 hj).1; omega)
      injection e' with e'
      injection e' with e1 e2
      subst e1 e2
      have := hc' _ _ hj
      rw [Nat.zero_add] at this
      show w.cell? _ = _
      unfold Addr.add
      split
      · subst j; simpa using this
      · simpa using this)
    (fun u hu => h.2.1 u (List.mem_of_mem_drop hu)) (by omega) (by rw [hz1, hdl]; omega)
  rw [show i + (n - (i + 1)) = m by omega, hz1] at hrun
  obtain ⟨w2, hw2⟩ : ∃ w2, w2 = w.drew.setRow g (over cur (i * 1) (xs.drop (i + 1))) := ⟨_, rfl⟩
  have hB2 : Bk w2 g 98 (over cur (i * 1) (xs.drop (i + 1))) := by rw [hw2]; exact setRow_heap w.drew g cur _ _ _ hg
  have hf2 : Fr (fun j => j = g) w w2 := by rw [hw2]; exact ((Fr.refl (fun j => j = g) w).drew).trans (setRow_fr w.drew g _)
  have hos : (over cur (i * 1) (xs.drop (i + 1))).size = cur.size := over_size _ _ _ (by rw [hdl]; omega)
  unfold over at hw2
  rw [← hw2] at hrun
  clear hw2
  obtain ⟨w3, hcl, hB3, hf3⟩ := run_clearW (P := Try.prog) w2 100 98 0 (Value.pointer none) 1 Try.underlying100 zeroPR rfl (by intro u hu; simp only [Value.cells, List.mem_cons, List.not_mem_nil, or_false] at hu; first | (rcases hu with rfl | rfl <;> rfl) | (rw [hu]; rfl))
    g (m) (n - m) (c - m) _ 98 hB2 (by rw [hos]; omega) (by omega)
  have hoz : (over (over cur (i * 1) (xs.drop (i + 1))) (m) (Builtin.zeroCells (Value.cells (Value.pointer none)) (n - m)).toList).size = cur.size := by
    rw [over_size _ _ _ (by rw [Array.length_toList, size_zeroCells, hos]; show (m) + (n - m) * 1 ≤ cur.size; omega), hos]
  have hnl : (xs.take (i) ++ xs.drop (i + 1)).length = m * 1 := by rw [List.length_append, List.length_take, hdl, hlen]; omega
  have HR : Hid (RowW w3 base 98 1 (.slice (some ⟨g, 0, none⟩) m c) m (xs.take (i) ++ xs.drop (i + 1))) := by
    refine ⟨hnl, fun u hu => ?_, .inr ⟨g, c, _, rfl, hbg, hB3, by omega, hcm, by rw [hoz]; exact hcs, ?_⟩⟩
    · rcases List.mem_append.1 hu with h' | h'
      · exact h.2.1 u (List.mem_of_mem_take h')
      · exact h.2.1 u (List.mem_of_mem_drop h')
    · have e1 : cur.toList.take (i * 1) = xs.take (i) := by
        rw [← htake, List.take_take]
        congr 1
        omega
      have e2 : (m) = (xs.take (i) ++ xs.drop (i + 1)).length := by rw [hnl]; try omega
      unfold over
      simp only []
      rw [e1]
      rw [List.append_assoc, List.take_append_of_le_length (by rw [List.length_take, List.length_append, List.length_append, ← List.length_append, hnl]; omega), List.take_take]
      rw [show min (m * 1) (m) = (xs.take (i) ++ xs.drop (i + 1)).length by rw [hnl]; omega]
      exact List.take_left
  have HFR : Hid (Fr (fun j => j = g) w w3) := hf2.trans hf3
  have hmn : m + 1 = n := by omega
  have hmc : ¬ (c = m) := by omega
  have hmi : (m : Int) ≤ (n : Int) := by omega
  have hic : ¬ (c = i) := by omega
  have hwi : IntKind.i64.wrap ((i : Int) + 1) = (i : Int) + 1 := IntWalk.i64_in _ (by omega)
  have hne : ((i : Int) == (i : Int) + 1) = false := beq_eq_false_iff_ne.2 (by omega)
  have hne2 : ¬ ((i : Int) = (i : Int) + 1) := by omega
  have htn : ((i : Int) + 1).toNat = i + 1 := by omega
  have hz0' : (0 : Int) ≤ (i : Int) + 1 := by omega
  have hle : (i : Int) + 1 ≤ (n : Int) := by omega
  have hlc : (i : Int) + 1 ≤ (c : Int) := by omega
  have hii : (i : Int) ≤ (i : Int) + 1 := by omega
  rw [← hm]
  clear h hg hcs htake hlen hdl hcs2 hB2 hf2 hos hB3 hf3 hoz hnl hm hcm
  go_enter Try.func103, Try.ntmps103
  by_cases hci : c = i + 1
  · rw [if_pos hci] at ha2
    subst ha2
    subst hci
    obtain rfl : n = i + 1 := by omega
    obtain rfl : m = i := by omega
    simp only [Nat.sub_self, Nat.add_sub_cancel_left] at hrun hcl
    have hi1 : m ≤ m + 1 := by omega
    go_wp2_with fail
    go_region_law (refine step_appI rfl _ _ 100 100 rfl _ _ (by simp [Act.eval, Act.put]) (by simp [Act.eval, Act.put]) hrun ?_)
    go_wp2_with (at_builtin; go_loud (refine wpList_clearI rfl _ 100 rfl _ rfl hcl ?_))
    go_ret
    exact ⟨rfl, HR.out, HFR.out⟩
  · rw [if_neg hci] at ha2
    have hi1 : i ≤ c := by omega
    have hi2 : i + 1 ≤ n := by omega
    subst ha2
    go_wp2_with fail
    go_region_law (refine step_appI rfl _ _ 100 100 rfl _ _ (by simp [Act.eval, Act.put]) (by simp [Act.eval, Act.put]) hrun ?_)
    go_wp2_with (at_builtin; go_loud (refine wpList_clearI rfl _ 100 rfl _ rfl hcl ?_))
    go_ret
    exact ⟨rfl, HR.out, HFR.out⟩
end Go.Proofs.Ytkdcacajacndmaa
