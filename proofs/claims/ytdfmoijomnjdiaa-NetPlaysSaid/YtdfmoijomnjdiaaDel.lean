/- slices.Delete of one parcel. Conditions: at most 4000 parcels. -/
import Derived.Test.YtdfmoijomnjdiaaNt
import Derived.Test.YtdfmoijomnjdiaaB3
import Derived.Deep.Light
import Derived.Deep.RegionLaw
namespace Go.Proofs.Ytdfmoijomnjdiaa
open Go.RowKit

theorem step_appI {P : Program} {w : World} {ops : Array Oper} {o : Oper} {a : Act} {K : Act → World → Prop} {Q : Exit → Act → World → Prop} {E : Prop} (hgd : o.guard = none) (s x : Operand) (t t' : TypeId)
    (ho : o.op = .call { callee := .builtin .append, args := #[s, x], argTypes := #[t, t'] }) (v u : Value) (hs : a.eval s = v) (hx : a.eval x = u) {v' : Value} {w' : World}
    (hr : (Builtin.append_ #[t, t'] o.type #[v, u]).run P w = .ok v' w') (h : K (a.put o.dst v') w') :
    if Region.wanted o (yielded ops a.tmps) = true then Oper.wp P o a w K Q else E := by
  have hw : Region.wanted o (yielded ops a.tmps) = true := by simp [Region.wanted, hgd]
  rw [if_pos hw]
  unfold Oper.wp execOp
  simp only [ho, resolve, invoke, builtin, Sem.run_bind, Sem.run_pure, Result.andThen_ok, List.map_toArray, List.map_cons, List.map_nil, hs, hx, hr]
  exact h
theorem zeroPc (w : World) : (zeroValue 35).run Try.prog w = .ok (.agg pcz) w := by kernel_rfl
theorem pcz_one : ∀ u ∈ (Value.cells (.agg pcz)).toList, u.oneCell' = true := by
  intro u hu
  simp only [Value.cells, pcz, List.mem_cons, List.not_mem_nil, or_false] at hu
  rcases hu with rfl | rfl | rfl | rfl | rfl | rfl | rfl <;> rfl

set_option maxRecDepth 100000 in
set_option maxHeartbeats 1000000 in
theorem delP_any (w : World) (g n c j : Nat) (xs : List Value) (h : w.ownsRow 0 35 7 (.slice (some ⟨g, 0, none⟩) n c) n xs) (h1 : ∀ u ∈ xs, u.oneCell' = true) (hin : j < n) (hn : n ≤ 4000) :
    Calls Try.prog 18 #[.slice (some ⟨g, 0, none⟩) n c, .int .i64 (j : Int), .int .i64 ((j : Int) + 1)] w fun en w' => en = .returned (.slice (some ⟨g, 0, none⟩) (n - 1) c) ∧
      w'.ownsRow 0 35 7 (.slice (some ⟨g, 0, none⟩) (n - 1) c) (n - 1) (xs.take (j * 7) ++ xs.drop ((j + 1) * 7)) ∧ Fr (fun k => k = g) w w' := by
  obtain ⟨i0, hi, hz0, hz1, hz2⟩ := info_parts pcInfo
  rcases h.2 with ⟨hv, _⟩ | ⟨g', cap, cur, hv, hbg, hg, hnc, hcm, hcs, htake⟩
  · cases hv
  injection hv with hv1 hv2 hv3
  injection hv1 with hv1
  injection hv1 with hv1
  subst hv1 hv3
  have hlen : xs.length = n * 7 := h.1
  obtain ⟨m, hm⟩ : ∃ m, m = n - 1 := ⟨_, rfl⟩
  have hdl : (xs.drop ((j + 1) * 7)).length = (n - (j + 1)) * 7 := by rw [List.length_drop, hlen]; omega
  obtain ⟨a2, ha2⟩ : ∃ a2 : Addr, a2 = if c = j + 1 then ⟨g, 0, none⟩ else ⟨g, (j + 1) * 7, none⟩ := ⟨_, rfl⟩
  have hrd := Rd.of_ownN h
  have hrun := run_append_room (P := Try.prog) w.drew 27 27 35 i0 Try.underlying27 hi g j c cur hg a2 (n - (j + 1)) (c - (j + 1)) (xs.drop ((j + 1) * 7)) (by rw [hz1]; exact hdl)
    (fun k v hk => by
      have hj0 := (List.getElem?_eq_some_iff.1 hk).1
      rw [hdl] at hj0
      rw [ha2, if_neg (by omega)]
      rw [List.getElem?_drop] at hk
      obtain ⟨b', o', e', hc'⟩ := hrd (by have := (List.getElem?_eq_some_iff.1 hk).1; omega)
      injection e' with e'
      injection e' with e1 e2
      subst e1 e2
      have := hc' _ _ hk
      rw [Nat.zero_add] at this
      show w.cell? _ = _
      unfold Addr.add
      split
      · subst k; simpa using this
      · simpa using this)
    (fun u hu => h1 u (List.mem_of_mem_drop hu)) (by omega) (by rw [hz1, hdl]; omega)
  rw [show j + (n - (j + 1)) = m by omega, hz1] at hrun
  obtain ⟨w2, hw2⟩ : ∃ w2, w2 = w.drew.setRow g (over cur (j * 7) (xs.drop ((j + 1) * 7))) := ⟨_, rfl⟩
  have hB2 : Bk w2 g 35 (over cur (j * 7) (xs.drop ((j + 1) * 7))) := by rw [hw2]; exact setRow_heap w.drew g cur _ _ _ hg
  have hf2 : Fr (fun k => k = g) w w2 := by rw [hw2]; exact ((Fr.refl (fun k => k = g) w).drew).trans (setRow_fr w.drew g _)
  have hos : (over cur (j * 7) (xs.drop ((j + 1) * 7))).size = cur.size := over_size _ _ _ (by rw [hdl]; omega)
  unfold over at hw2
  rw [← hw2] at hrun
  clear hw2
  obtain ⟨w3, hcl, hB3, hf3⟩ := run_clearW (P := Try.prog) w2 27 35 0 (.agg pcz) 7 Try.underlying27 zeroPc rfl pcz_one
    g (m * 7) (n - m) (c - m) _ 35 hB2 (by rw [hos]; omega) (by omega)
  have hoz : (over (over cur (j * 7) (xs.drop ((j + 1) * 7))) (m * 7) (Builtin.zeroCells (Value.cells (.agg pcz)) (n - m)).toList).size = cur.size := by
    rw [over_size _ _ _ (by rw [Array.length_toList, size_zeroCells, hos]; show m * 7 + (n - m) * 7 ≤ cur.size; omega), hos]
  have hxt : xs.take (j * 7) = cur.toList.take (j * 7) := by rw [← htake, List.take_take]; congr 1; omega
  have hnl : (xs.take (j * 7) ++ xs.drop ((j + 1) * 7)).length = m * 7 := by rw [List.length_append, hdl, List.length_take, hlen]; omega
  have HR : Hid (w3.ownsRow 0 35 7 (.slice (some ⟨g, 0, none⟩) m c) m (xs.take (j * 7) ++ xs.drop ((j + 1) * 7))) := by
    refine ⟨hnl, .inr ⟨g, c, _, rfl, Nat.zero_le _, hB3, by omega, hcm, by rw [hoz]; exact hcs, ?_⟩⟩
    unfold over
    simp only []
    rw [List.append_assoc, ← hxt]
    have e1 : ((xs.take (j * 7) ++ xs.drop ((j + 1) * 7) ++ cur.toList.drop (j * 7 + (xs.drop ((j + 1) * 7)).length)).take (m * 7)) = xs.take (j * 7) ++ xs.drop ((j + 1) * 7) := by
      rw [List.take_append_of_le_length (by rw [hnl]; omega), List.take_of_length_le (by rw [hnl]; omega)]
    rw [e1, List.take_append_of_le_length (by rw [hnl]; omega), List.take_of_length_le (by rw [hnl]; omega)]
  have HFR : Hid (Fr (fun k => k = g) w w3) := hf2.trans hf3
  have hmn : m + 1 = n := by omega
  have hmc : ¬ (c = m) := by omega
  have hjc : ¬ (c = j) := by omega
  have hmi : (m : Int) ≤ (n : Int) := by omega
  have hne : ((j : Int) == (j : Int) + 1) = false := beq_eq_false_iff_ne.2 (by omega)
  have hne2 : ¬ ((j : Int) = (j : Int) + 1) := by omega
  have hle : (j : Int) + 1 ≤ (n : Int) := by omega
  have hj0 : (0 : Int) ≤ (j : Int) + 1 := by omega
  have hjn : (j : Int) ≤ (n : Int) := by omega
  have hjj : (j : Int) ≤ (j : Int) + 1 := by omega
  have hjc2 : (j : Int) ≤ (c : Int) := by omega
  have hlc : (j : Int) + 1 ≤ (c : Int) := by omega
  have hnc' : (n : Int) ≤ (c : Int) := by omega
  have htn : ((j : Int) + 1).toNat = j + 1 := by omega
  rw [← hm]
  clear h hg hcs htake hlen hdl hB2 hf2 hos hB3 hf3 hoz hm hcm hrd hxt hnl
  go_enter Try.func18, Try.ntmps18
  by_cases hci : c = j + 1
  · rw [if_pos hci] at ha2
    subst ha2
    subst hci
    obtain rfl : n = j + 1 := by omega
    obtain rfl : m = j := by omega
    simp only [Nat.sub_self] at hrun
    rw [show m + 1 - m = 1 by omega] at hcl
    go_wp2_with fail
    go_region_law (refine step_appI rfl _ _ 27 27 rfl _ _ (by simp [Act.eval, Act.put]) (by simp [Act.eval, Act.put]) hrun ?_)
    go_wp2_with (at_builtin; go_loud (refine wpList_clearI rfl _ 27 rfl _ rfl hcl ?_))
    go_ret
    exact ⟨rfl, HR.out, HFR.out⟩
  · rw [if_neg hci] at ha2
    subst ha2
    go_wp2_with fail
    go_region_law (refine step_appI rfl _ _ 27 27 rfl _ _ (by simp [Act.eval, Act.put]) (by simp [Act.eval, Act.put]) hrun ?_)
    go_wp2_with (at_builtin; go_loud (refine wpList_clearI rfl _ 27 rfl _ rfl hcl ?_))
    go_ret
    exact ⟨rfl, HR.out, HFR.out⟩
end Go.Proofs.Ytdfmoijomnjdiaa
