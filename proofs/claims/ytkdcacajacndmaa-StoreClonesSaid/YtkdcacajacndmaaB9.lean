/- slices.Insert of one element in its place, where there is room. -/
import Derived.Test.YtkdcacajacndmaaB8
import Derived.Lib.Overlaps
namespace Go.Proofs.Ytkdcacajacndmaa
open Go.RowKit
theorem step_copyI {P : Program} {w : World} {ops : Array Oper} {o : Oper} {a : Act} {K : Act → World → Prop} {Q : Exit → Act → World → Prop} {E : Prop} (hgd : o.guard = none) (d s : Operand) (t t' : TypeId)
    (ho : o.op = .call { callee := .builtin .copy, args := #[d, s], argTypes := #[t, t'] }) (v u : Value) (hd : a.eval d = v) (hs : a.eval s = u) {v' : Value} {w' : World}
    (hr : (Builtin.copy_ #[t, t'] o.type #[v, u]).run P w = .ok v' w') (h : K (a.put o.dst v') w') :
    if Region.wanted o (yielded ops a.tmps) = true then Oper.wp P o a w K Q else E := by
  have hw : Region.wanted o (yielded ops a.tmps) = true := by simp [Region.wanted, hgd]
  rw [if_pos hw]
  unfold Oper.wp execOp
  simp only [ho, resolve, invoke, builtin, Sem.run_bind, Sem.run_pure, Result.andThen_ok, List.map_toArray, List.map_cons, List.map_nil, hd, hs, hr]
  exact h
theorem overIR (w : World) (nb g k lb cb : Nat) (nwa cur : Array Value) (hne : nb ≠ g) (hn : Bk w nb 124 nwa) (hg : Bk w g 124 cur) (hc : cur.size ≠ 0) :
    (callFunc 94 #[.slice (some ⟨nb, 0, none⟩) 1 1, .slice (some ⟨g, k, none⟩) lb cb]).run Try.prog w = .ok (.value (.bool false)) w := by
  rw [run_callFunc_extern Try.func94 (by kernel_rfl) (by kernel_rfl) (by kernel_rfl) (e := Extern.SlicesOverlaps.overlaps #[99, 99] #[4]) (by kernel_rfl),
    Lib.run_overlaps_apart w 99 4 124 Try.underlying99 5 (by intro w; kernel_rfl) ⟨nb, 0, none⟩ ⟨g, k, none⟩ 1 1 lb cb hne 124 124 nwa.size cur.size (by unfold Bk at hn; simp [World.shape?, hn]) (by unfold Bk at hg; simp [World.shape?, hg]) hc (hn.free 0) (hn.free _)]
  rfl
set_option maxRecDepth 100000 in
set_option maxHeartbeats 1000000 in
theorem insInIR_any (w : World) (base g n c i : Nat) (xs : List Value) (h : RowW w base 124 5 (.slice (some ⟨g, 0, none⟩) n c) n xs) (hin : i < n) (hroom : n + 1 ≤ c) (hn : n ≤ 1000) (nb : Nat) (nwa : Array Value) (hnb : Bk w nb 124 nwa) (hs : nwa.size = 5) (h1 : ∀ u ∈ nwa.toList, u.oneCell' = true) (hne : nb ≠ g) :
    Calls Try.prog 86 #[.slice (some ⟨g, 0, none⟩) n c, .int .i64 i, .slice (some ⟨nb, 0, none⟩) 1 1] w fun en w' => en = .returned (.slice (some ⟨g, 0, none⟩) (n + 1) c) ∧
      RowW w' base 124 5 (.slice (some ⟨g, 0, none⟩) (n + 1) c) (n + 1) (xs.take (i * 5) ++ nwa.toList ++ xs.drop (i * 5)) ∧ Fr (fun j => j = g) w w' := by
  rcases h.2.2 with ⟨hv, _⟩ | ⟨g', cap, cur, hv, hbg, hg, hnc, hcm, hcs, htake⟩
  · cases hv
  injection hv with hv1 hv2 hv3
  injection hv1 with hv1
  injection hv1 with hv1
  subst hv1 hv3
  have hlen : xs.length = n * 5 := h.1
  have hdl : (xs.drop (i * 5)).length = (n - i) * 5 := by rw [List.length_drop, hlen]; omega
  have hov : ∀ lb cb, (callFunc 94 #[.slice (some ⟨nb, 0, none⟩) 1 1, .slice (some ⟨g, (i + 1) * 5, none⟩) lb cb]).run Try.prog w = .ok (.value (.bool false)) w := fun lb cb => overIR w nb g _ lb cb nwa cur hne hnb hg (by omega)
  obtain ⟨w2, hcp, hB2, hf2⟩ := run_copyW (P := Try.prog) w.drew 99 99 3 124 5 g ((i + 1) * 5) (n - i) (c - (i + 1)) ⟨g, i * 5, none⟩ (n + 1 - i) (c - i) cur 124 (xs.drop (i * 5)) Try.underlying99 sizeIR hg
    (by rw [hdl]; congr 1; show n - i = min (n + 1 - i) (n - i); omega)
    (fun j v hj => by
      rw [List.getElem?_drop] at hj
      obtain ⟨b', o', e', hc'⟩ := h.rd (by have := (List.getElem?_eq_some_iff.1 hj).1; omega)
      injection e' with e'
      injection e' with e1 e2
      subst e1 e2
      have := hc' _ _ hj
      rw [Nat.zero_add] at this
      show w.cell? _ = _
      unfold Addr.add
      split
      · subst j; simpa using this
      · simpa using this)
    (by rw [hdl]; omega) (fun u hu => h.2.1 u (List.mem_of_mem_drop hu))
  have hos2 : (over cur ((i + 1) * 5) (xs.drop (i * 5))).size = cur.size := over_size _ _ _ (by rw [hdl]; omega)
  have hnb2 : Bk w2 nb 124 nwa := (Bk.fr hnb (Fr.refl NoBlk w).drew fun h => h).fr hf2 (fun e => hne e)
  obtain ⟨w3, hcp2, hB3, hf3⟩ := run_copyW (P := Try.prog) w2 99 99 3 124 5 g (i * 5) (n + 1 - i) (c - i) ⟨nb, 0, none⟩ 1 1 _ 124 nwa.toList Try.underlying99 sizeIR hB2
    (by rw [Array.length_toList, hs]; show 5 = min 1 (n + 1 - i) * 5; omega)
    (fun j v hj => by
      have := hnb2.cell j
      unfold Addr.add
      split
      · subst j; rw [this]; simpa using hj
      · simp only [Nat.zero_add]; rw [this]; simpa using hj)
    (by rw [hos2, Array.length_toList, hs]; omega) h1
  have hos3 : (over (over cur ((i + 1) * 5) (xs.drop (i * 5))) (i * 5) nwa.toList).size = cur.size := by rw [over_size _ _ _ (by rw [hos2, Array.length_toList, hs]; omega), hos2]
  have hnl : (xs.take (i * 5) ++ nwa.toList ++ xs.drop (i * 5)).length = (n + 1) * 5 := by rw [List.length_append, List.length_append, List.length_take, hdl, hlen, Array.length_toList, hs]; omega
  have HR : Hid (RowW w3 base 124 5 (.slice (some ⟨g, 0, none⟩) (n + 1) c) (n + 1) (xs.take (i * 5) ++ nwa.toList ++ xs.drop (i * 5))) := by
    refine ⟨hnl, fun u hu => ?_, .inr ⟨g, c, _, rfl, hbg, hB3, hroom, hcm, by rw [hos3]; exact hcs, ?_⟩⟩
    · rcases List.mem_append.1 hu with h' | h'
      · rcases List.mem_append.1 h' with h' | h'
        · exact h.2.1 u (List.mem_of_mem_take h')
        · exact h1 u h'
      · exact h.2.1 u (List.mem_of_mem_drop h')
    · have e0 : (over (over cur ((i + 1) * 5) (xs.drop (i * 5))) (i * 5) nwa.toList).toList = (cur.toList.take ((i + 1) * 5) ++ xs.drop (i * 5) ++ cur.toList.drop ((i + 1) * 5 + (xs.drop (i * 5)).length)).take (i * 5) ++ nwa.toList ++ (cur.toList.take ((i + 1) * 5) ++ xs.drop (i * 5) ++ cur.toList.drop ((i + 1) * 5 + (xs.drop (i * 5)).length)).drop (i * 5 + nwa.toList.length) := rfl
      have e1 : (cur.toList.take ((i + 1) * 5) ++ xs.drop (i * 5) ++ cur.toList.drop ((i + 1) * 5 + (xs.drop (i * 5)).length)).take (i * 5) = xs.take (i * 5) := by
        rw [List.append_assoc, List.take_append_of_le_length (by rw [List.length_take, Array.length_toList]; omega), List.take_take, ← htake, List.take_take]
        congr 1
        omega
      have e2 : (cur.toList.take ((i + 1) * 5) ++ xs.drop (i * 5) ++ cur.toList.drop ((i + 1) * 5 + (xs.drop (i * 5)).length)).drop (i * 5 + nwa.toList.length) = xs.drop (i * 5) ++ cur.toList.drop ((i + 1) * 5 + (xs.drop (i * 5)).length) := by
        rw [List.append_assoc]
        exact List.drop_left' (by rw [List.length_take, Array.length_toList, Array.length_toList, hs]; omega)
      rw [e0, e1, e2, ← List.append_assoc]
      exact List.take_left' hnl
  have HFR : Hid (Fr (fun j => j = g) w w3) := (((Fr.refl (fun j => j = g) w).drew).trans hf2).trans hf3
  have hwi : IntKind.i64.wrap ((i : Int) + 1) = (i : Int) + 1 := IntWalk.i64_in _ (by omega)
  have hwn : IntKind.i64.wrap ((n : Int) + 1) = (n : Int) + 1 := IntWalk.i64_in _ (by omega)
  have hni : ¬ ((i : Int) = (n : Int)) := by omega
  have hci : ¬ (c = i) := by omega
  have hci1 : ¬ (c = i + 1) := by omega
  have hrc : (n : Int) + 1 ≤ (c : Int) := by omega
  have htn : ((i : Int) + 1).toNat = i + 1 := by omega
  have htn2 : ((n : Int) + 1).toNat = n + 1 := by omega
  have hb1 : (0 : Int) ≤ (i : Int) + 1 := by omega
  have hb2 : (0 : Int) ≤ (n : Int) + 1 := by omega
  have hb3 : (i : Int) ≤ (n : Int) + 1 := by omega
  have hb4 : (i : Int) + 1 ≤ (n : Int) + 1 := by omega
  have hb5 : i ≤ n := by omega
  clear h hg hcs htake hlen hdl hB2 hf2 hos2 hnb2 hB3 hf3 hos3 hnl hcm hnb
  go_enter Try.func86, Try.ntmps86
  go_wp2_with (simp only [hov])
  go_region_law (refine step_copyI rfl _ _ 99 99 rfl _ _ (by simp [Act.eval, Act.put]) (by simp [Act.eval, Act.put]) hcp ?_)
  go_wp2_with (at_builtin; go_loud (refine wpList_copyI rfl _ _ 99 99 rfl _ _ rfl rfl hcp2 ?_))
  go_ret
  exact ⟨rfl, HR.out, HFR.out⟩
theorem overPR (w : World) (nb g k lb cb : Nat) (nwa cur : Array Value) (hne : nb ≠ g) (hn : Bk w nb 98 nwa) (hg : Bk w g 98 cur) (hc : cur.size ≠ 0) :
    (callFunc 96 #[.slice (some ⟨nb, 0, none⟩) 1 1, .slice (some ⟨g, k, none⟩) lb cb]).run Try.prog w = .ok (.value (.bool false)) w := by
  rw [run_callFunc_extern Try.func96 (by kernel_rfl) (by kernel_rfl) (by kernel_rfl) (e := Extern.SlicesOverlaps.overlaps #[100, 100] #[4]) (by kernel_rfl),
    Lib.run_overlaps_apart w 100 4 98 Try.underlying100 1 (by intro w; kernel_rfl) ⟨nb, 0, none⟩ ⟨g, k, none⟩ 1 1 lb cb hne 98 98 nwa.size cur.size (by unfold Bk at hn; simp [World.shape?, hn]) (by unfold Bk at hg; simp [World.shape?, hg]) hc (hn.free 0) (hn.free _)]
  rfl
set_option maxRecDepth 100000 in
set_option maxHeartbeats 1000000 in
theorem insInPR_any (w : World) (base g n c i : Nat) (xs : List Value) (h : RowW w base 98 1 (.slice (some ⟨g, 0, none⟩) n c) n xs) (hin : i < n) (hroom : n + 1 ≤ c) (hn : n ≤ 1000) (nb : Nat) (nwa : Array Value) (hnb : Bk w nb 98 nwa) (hs : nwa.size = 1) (h1 : ∀ u ∈ nwa.toList, u.oneCell' = true) (hne : nb ≠ g) :
    Calls Try.prog 89 #[.slice (some ⟨g, 0, none⟩) n c, .int .i64 i, .slice (some ⟨nb, 0, none⟩) 1 1] w fun en w' => en = .returned (.slice (some ⟨g, 0, none⟩) (n + 1) c) ∧
      RowW w' base 98 1 (.slice (some ⟨g, 0, none⟩) (n + 1) c) (n + 1) (xs.take (i) ++ nwa.toList ++ xs.drop (i)) ∧ Fr (fun j => j = g) w w' := by
  rcases h.2.2 with ⟨hv, _⟩ | ⟨g', cap, cur, hv, hbg, hg, hnc, hcm, hcs, htake⟩
  · cases hv
  injection hv with hv1 hv2 hv3
  injection hv1 with hv1
  injection hv1 with hv1
  subst hv1 hv3
  have hlen : xs.length = n * 1 := h.1
  have hdl : (xs.drop (i)).length = (n - i) * 1 := by rw [List.length_drop, hlen]; omega
  have hov : ∀ lb cb, (callFunc 96 #[.slice (some ⟨nb, 0, none⟩) 1 1, .slice (some ⟨g, (i + 1), none⟩) lb cb]).run Try.prog w = .ok (.value (.bool false)) w := fun lb cb => overPR w nb g _ lb cb nwa cur hne hnb hg (by omega)
  obtain ⟨w2, hcp, hB2, hf2⟩ := run_copyW (P := Try.prog) w.drew 100 100 3 98 1 g ((i + 1)) (n - i) (c - (i + 1)) ⟨g, i, none⟩ (n + 1 - i) (c - i) cur 98 (xs.drop (i)) Try.underlying100 sizePR hg
    (by rw [hdl]; congr 1; show n - i = min (n + 1 - i) (n - i); omega)
    (fun j v hj => by
      rw [List.getElem?_drop] at hj
      obtain ⟨b', o', e', hc'⟩ := h.rd (by have := (List.getElem?_eq_some_iff.1 hj).1; omega)
      injection e' with e'
      injection e' with e1 e2
      subst e1 e2
      have := hc' _ _ hj
      rw [Nat.zero_add] at this
      show w.cell? _ = _
      unfold Addr.add
      split
      · subst j; simpa using this
      · simpa using this)
    (by rw [hdl]; omega) (fun u hu => h.2.1 u (List.mem_of_mem_drop hu))
  have hos2 : (over cur ((i + 1)) (xs.drop (i))).size = cur.size := over_size _ _ _ (by rw [hdl]; omega)
  have hnb2 : Bk w2 nb 98 nwa := (Bk.fr hnb (Fr.refl NoBlk w).drew fun h => h).fr hf2 (fun e => hne e)
  obtain ⟨w3, hcp2, hB3, hf3⟩ := run_copyW (P := Try.prog) w2 100 100 3 98 1 g (i) (n + 1 - i) (c - i) ⟨nb, 0, none⟩ 1 1 _ 98 nwa.toList Try.underlying100 sizePR hB2
    (by rw [Array.length_toList, hs]; show 1 = min 1 (n + 1 - i) * 1; omega)
    (fun j v hj => by
      have := hnb2.cell j
      unfold Addr.add
      split
      · subst j; rw [this]; simpa using hj
      · simp only [Nat.zero_add]; rw [this]; simpa using hj)
    (by rw [hos2, Array.length_toList, hs]; omega) h1
  have hos3 : (over (over cur ((i + 1)) (xs.drop (i))) (i) nwa.toList).size = cur.size := by rw [over_size _ _ _ (by rw [hos2, Array.length_toList, hs]; omega), hos2]
  have hnl : (xs.take (i) ++ nwa.toList ++ xs.drop (i)).length = (n + 1) * 1 := by rw [List.length_append, List.length_append, List.length_take, hdl, hlen, Array.length_toList, hs]; omega
  have HR : Hid (RowW w3 base 98 1 (.slice (some ⟨g, 0, none⟩) (n + 1) c) (n + 1) (xs.take (i) ++ nwa.toList ++ xs.drop (i))) := by
    refine ⟨hnl, fun u hu => ?_, .inr ⟨g, c, _, rfl, hbg, hB3, hroom, hcm, by rw [hos3]; exact hcs, ?_⟩⟩
    · rcases List.mem_append.1 hu with h' | h'
      · rcases List.mem_append.1 h' with h' | h'
        · exact h.2.1 u (List.mem_of_mem_take h')
        · exact h1 u h'
      · exact h.2.1 u (List.mem_of_mem_drop h')
    · have e0 : (over (over cur ((i + 1)) (xs.drop (i))) (i) nwa.toList).toList = (cur.toList.take ((i + 1)) ++ xs.drop (i) ++ cur.toList.drop ((i + 1) + (xs.drop (i)).length)).take (i) ++ nwa.toList ++ (cur.toList.take ((i + 1)) ++ xs.drop (i) ++ cur.toList.drop ((i + 1) + (xs.drop (i)).length)).drop (i + nwa.toList.length) := rfl
      have e1 : (cur.toList.take ((i + 1)) ++ xs.drop (i) ++ cur.toList.drop ((i + 1) + (xs.drop (i)).length)).take (i) = xs.take (i) := by
        rw [List.append_assoc, List.take_append_of_le_length (by rw [List.length_take, Array.length_toList]; omega), List.take_take, ← htake, List.take_take]
        congr 1
        omega
      have e2 : (cur.toList.take ((i + 1)) ++ xs.drop (i) ++ cur.toList.drop ((i + 1) + (xs.drop (i)).length)).drop (i + nwa.toList.length) = xs.drop (i) ++ cur.toList.drop ((i + 1) + (xs.drop (i)).length) := by
        rw [List.append_assoc]
        exact List.drop_left' (by rw [List.length_take, Array.length_toList, Array.length_toList, hs]; omega)
      rw [e0, e1, e2, ← List.append_assoc]
      exact List.take_left' hnl
  have HFR : Hid (Fr (fun j => j = g) w w3) := (((Fr.refl (fun j => j = g) w).drew).trans hf2).trans hf3
  have hwi : IntKind.i64.wrap ((i : Int) + 1) = (i : Int) + 1 := IntWalk.i64_in _ (by omega)
  have hwn : IntKind.i64.wrap ((n : Int) + 1) = (n : Int) + 1 := IntWalk.i64_in _ (by omega)
  have hni : ¬ ((i : Int) = (n : Int)) := by omega
  have hci : ¬ (c = i) := by omega
  have hci1 : ¬ (c = i + 1) := by omega
  have hrc : (n : Int) + 1 ≤ (c : Int) := by omega
  have htn : ((i : Int) + 1).toNat = i + 1 := by omega
  have htn2 : ((n : Int) + 1).toNat = n + 1 := by omega
  have hb1 : (0 : Int) ≤ (i : Int) + 1 := by omega
  have hb2 : (0 : Int) ≤ (n : Int) + 1 := by omega
  have hb3 : (i : Int) ≤ (n : Int) + 1 := by omega
  have hb4 : (i : Int) + 1 ≤ (n : Int) + 1 := by omega
  have hb5 : i ≤ n := by omega
  clear h hg hcs htake hlen hdl hB2 hf2 hos2 hnb2 hB3 hf3 hos3 hnl hcm hnb
  go_enter Try.func89, Try.ntmps89
  go_wp2_with (simp only [hov])
  go_region_law (refine step_copyI rfl _ _ 100 100 rfl _ _ (by simp [Act.eval, Act.put]) (by simp [Act.eval, Act.put]) hcp ?_)
  go_wp2_with (at_builtin; go_loud (refine wpList_copyI rfl _ _ 100 100 rfl _ _ rfl rfl hcp2 ?_))
  go_ret
  exact ⟨rfl, HR.out, HFR.out⟩
end Go.Proofs.Ytkdcacajacndmaa
