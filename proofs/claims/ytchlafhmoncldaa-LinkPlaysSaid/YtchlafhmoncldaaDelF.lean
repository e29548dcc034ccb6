/- slices.Delete of the first elements of a row of rows. Conditions: at most 1000 elements. -/
import Derived.Test.YtchlafhmoncldaaMeet
import Derived.Test.YtchlafhmoncldaaB3
import Derived.Deep.Light
import Derived.Deep.RegionLaw
namespace Go.Proofs.Ytchlafhmoncldaa
open Go.RowKit Go.Maps Go.ChangeMaps Go.MapKept Go.WideShapes

theorem step_appI {P : Program} {w : World} {ops : Array Oper} {o : Oper} {a : Act} {K : Act → World → Prop} {Q : Exit → Act → World → Prop} {E : Prop} (hgd : o.guard = none) (s x : Operand) (t t' : TypeId)
    (ho : o.op = .call { callee := .builtin .append, args := #[s, x], argTypes := #[t, t'] }) (v u : Value) (hs : a.eval s = v) (hx : a.eval x = u) {v' : Value} {w' : World}
    (hr : (Builtin.append_ #[t, t'] o.type #[v, u]).run P w = .ok v' w') (h : K (a.put o.dst v') w') :
    if Region.wanted o (yielded ops a.tmps) = true then Oper.wp P o a w K Q else E := by
  have hw : Region.wanted o (yielded ops a.tmps) = true := by simp [Region.wanted, hgd]
  rw [if_pos hw]
  unfold Oper.wp execOp
  simp only [ho, resolve, invoke, builtin, Sem.run_bind, Sem.run_pure, Result.andThen_ok, List.map_toArray, List.map_cons, List.map_nil, hs, hx, hr]
  exact h
theorem zeroSl (w : World) : (zeroValue 30).run Try.prog w = .ok (.slice none 0 0) w := by kernel_rfl

set_option maxRecDepth 100000 in
set_option maxHeartbeats 1000000 in
theorem delF_any (w : World) (g n c j : Nat) (xs : List Value) (h : w.ownsRow 0 30 1 (.slice (some ⟨g, 0, none⟩) n c) n xs) (h1 : ∀ u ∈ xs, u.oneCell' = true) (hj1 : 1 ≤ j) (hin : j ≤ n) (hn : n ≤ 1000) :
    Calls Try.prog 32 #[.slice (some ⟨g, 0, none⟩) n c, .int .i64 0, .int .i64 (j : Int)] w fun en w' => en = .returned (.slice (some ⟨g, 0, none⟩) (n - j) c) ∧
      w'.ownsRow 0 30 1 (.slice (some ⟨g, 0, none⟩) (n - j) c) (n - j) (xs.drop j) ∧ Fr (fun k => k = g) w w' := by
  obtain ⟨i0, hi, hz0, hz1, hz2⟩ := info_parts sliceInfo
  rcases h.2 with ⟨hv, _⟩ | ⟨g', cap, cur, hv, hbg, hg, hnc, hcm, hcs, htake⟩
  · cases hv
  injection hv with hv1 hv2 hv3
  injection hv1 with hv1
  injection hv1 with hv1
  subst hv1 hv3
  have hlen : xs.length = n * 1 := h.1
  obtain ⟨m, hm⟩ : ∃ m, m = n - j := ⟨_, rfl⟩
  have hdl : (xs.drop j).length = (n - j) * 1 := by rw [List.length_drop, hlen]; omega
  obtain ⟨a2, ha2⟩ : ∃ a2 : Addr, a2 = if c = j then ⟨g, 0, none⟩ else ⟨g, j, none⟩ := ⟨_, rfl⟩
  have hrd := Rd.of_own h
  have hrun := run_append_room (P := Try.prog) w.drew 38 38 30 i0 Try.underlying38 hi g 0 c cur hg a2 (n - j) (c - j) (xs.drop j) (by rw [hz1]; exact hdl)
    (fun k v hk => by
      have hj0 := (List.getElem?_eq_some_iff.1 hk).1
      rw [hdl] at hj0
      rw [ha2, if_neg (by omega)]
      rw [List.getElem?_drop] at hk
      obtain ⟨b', o', e', hc'⟩ := hrd (by have := (List.getElem?_eq_some_iff.1 hk).1; omega)
      injection e' with e'
      injection e' with e1 e2
      subst e1 e2
      have := hc' _ _ hk
      rw [Nat.zero_add] at this
      show w.cell? _ = _
      unfold Addr.add
      split
      · subst k; simpa using this
      · simpa using this)
    (fun u hu => h1 u (List.mem_of_mem_drop hu)) (by omega) (by rw [hz1, hdl]; omega)
  rw [show 0 + (n - j) = m by omega, hz1] at hrun
  obtain ⟨w2, hw2⟩ : ∃ w2, w2 = w.drew.setRow g (over cur (0 * 1) (xs.drop j)) := ⟨_, rfl⟩
  have hB2 : Bk w2 g 30 (over cur (0 * 1) (xs.drop j)) := by rw [hw2]; exact setRow_heap w.drew g cur _ _ _ hg
  have hf2 : Fr (fun k => k = g) w w2 := by rw [hw2]; exact ((Fr.refl (fun k => k = g) w).drew).trans (setRow_fr w.drew g _)
  have hos : (over cur (0 * 1) (xs.drop j)).size = cur.size := over_size _ _ _ (by rw [hdl]; omega)
  unfold over at hw2
  rw [← hw2] at hrun
  clear hw2
  obtain ⟨w3, hcl, hB3, hf3⟩ := run_clearW (P := Try.prog) w2 38 30 0 (Value.slice none 0 0) 1 Try.underlying38 zeroSl rfl (by intro u hu; simp only [Value.cells, List.mem_cons, List.not_mem_nil, or_false] at hu; rw [hu]; rfl)
    g m (n - m) (c - m) _ 30 hB2 (by rw [hos]; omega) (by omega)
  have hoz : (over (over cur (0 * 1) (xs.drop j)) m (Builtin.zeroCells (Value.cells (Value.slice none 0 0)) (n - m)).toList).size = cur.size := by
    rw [over_size _ _ _ (by rw [Array.length_toList, size_zeroCells, hos]; show m + (n - m) * 1 ≤ cur.size; omega), hos]
  have HR : Hid (w3.ownsRow 0 30 1 (.slice (some ⟨g, 0, none⟩) m c) m (xs.drop j)) := by
    refine ⟨by rw [hdl]; omega, .inr ⟨g, c, _, rfl, Nat.zero_le _, hB3, by omega, hcm, by rw [hoz]; exact hcs, ?_⟩⟩
    have e2 : m = (xs.drop j).length := by rw [hdl]; omega
    unfold over
    simp only []
    rw [Nat.zero_mul, List.take_zero, List.nil_append, List.append_assoc]
    rw [List.take_append_of_le_length (by rw [List.length_take, List.length_append, ← e2]; omega), List.take_take]
    rw [show min (m * 1) m = (xs.drop j).length by omega]
    exact List.take_left
  have HFR : Hid (Fr (fun k => k = g) w w3) := hf2.trans hf3
  have hmn : m + j = n := by omega
  have hmc : ¬ (c = m) := by omega
  have hmi : (m : Int) ≤ (n : Int) := by omega
  have hne : ((0 : Int) == (j : Int)) = false := beq_eq_false_iff_ne.2 (by omega)
  have hne2 : ¬ ((0 : Int) = (j : Int)) := by omega
  have hle : (j : Int) ≤ (n : Int) := by omega
  have hlc : (j : Int) ≤ (c : Int) := by omega
  have hnc' : (n : Int) ≤ (c : Int) := by omega
  rw [← hm]
  clear h hg hcs htake hlen hdl hB2 hf2 hos hB3 hf3 hoz hm hcm hrd
  go_enter Try.func32, Try.ntmps32
  by_cases hci : c = j
  · rw [if_pos hci] at ha2
    subst ha2
    subst hci
    obtain rfl : n = c := by omega
    obtain rfl : m = 0 := by omega
    simp only [Nat.sub_self, Nat.sub_zero] at hrun hcl
    go_wp2_with fail
    go_region_law (refine step_appI rfl _ _ 38 38 rfl _ _ (by simp [Act.eval, Act.put]) (by simp [Act.eval, Act.put]) hrun ?_)
    go_wp2_with (at_builtin; go_loud (refine wpList_clearI rfl _ 38 rfl _ rfl hcl ?_))
    go_ret
    exact ⟨rfl, HR.out, HFR.out⟩
  · rw [if_neg hci] at ha2
    subst ha2
    go_wp2_with fail
    go_region_law (refine step_appI rfl _ _ 38 38 rfl _ _ (by simp [Act.eval, Act.put]) (by simp [Act.eval, Act.put]) hrun ?_)
    go_wp2_with (at_builtin; go_loud (refine wpList_clearI rfl _ 38 rfl _ rfl hcl ?_))
    go_ret
    exact ⟨rfl, HR.out, HFR.out⟩
end Go.Proofs.Ytchlafhmoncldaa
