/- slices.Insert of one element in its place, where there is room. -/
import Derived.Test.YtcpgonioobgpoaaB8
import Derived.Lib.Overlaps
namespace Go.Proofs.Ytcpgonioobgpoaa
open Go.RowKit
theorem step_copyI {P : Program} {w : World} {ops : Array Oper} {o : Oper} {a : Act} {K : Act → World → Prop} {Q : Exit → Act → World → Prop} {E : Prop} (hgd : o.guard = none) (d s : Operand) (t t' : TypeId)
    (ho : o.op = .call { callee := .builtin .copy, args := #[d, s], argTypes := #[t, t'] }) (v u : Value) (hd : a.eval d = v) (hs : a.eval s = u) {v' : Value} {w' : World}
    (hr : (Builtin.copy_ #[t, t'] o.type #[v, u]).run P w = .ok v' w') (h : K (a.put o.dst v') w') :
    if Region.wanted o (yielded ops a.tmps) = true then Oper.wp P o a w K Q else E := by
  have hw : Region.wanted o (yielded ops a.tmps) = true := by simp [Region.wanted, hgd]
  rw [if_pos hw]
  unfold Oper.wp execOp
  simp only [ho, resolve, invoke, builtin, Sem.run_bind, Sem.run_pure, Result.andThen_ok, List.map_toArray, List.map_cons, List.map_nil, hd, hs, hr]
  exact h
theorem overIS (w : World) (nb g k lb cb : Nat) (nwa cur : Array Value) (hne : nb ≠ g) (hn : Bk w nb 72 nwa) (hg : Bk w g 72 cur) (hc : cur.size ≠ 0) :
    (callFunc 96 #[.slice (some ⟨nb, 0, none⟩) 1 1, .slice (some ⟨g, k, none⟩) lb cb]).run Try.prog w = .ok (.value (.bool false)) w := by
  rw [run_callFunc_extern Try.func96 (by kernel_rfl) (by kernel_rfl) (by kernel_rfl) (e := Extern.SlicesOverlaps.overlaps #[64, 64] #[4]) (by kernel_rfl),
    Lib.run_overlaps_apart w 64 4 72 Try.underlying64 2 (by intro w; kernel_rfl) ⟨nb, 0, none⟩ ⟨g, k, none⟩ 1 1 lb cb hne 72 72 nwa.size cur.size (by unfold Bk at hn; simp [World.shape?, hn]) (by unfold Bk at hg; simp [World.shape?, hg]) hc (hn.free 0) (hn.free _)]
  rfl
set_option maxRecDepth 100000 in
set_option maxHeartbeats 1000000 in
theorem insInIS_any (w : World) (base g n c i : Nat) (xs : List Value) (h : RowW w base 72 2 (.slice (some ⟨g, 0, none⟩) n c) n xs) (hin : i < n) (hroom : n + 1 ≤ c) (hn : n ≤ 1000) (nb : Nat) (nwa : Array Value) (hnb : Bk w nb 72 nwa) (hs : nwa.size = 2) (h1 : ∀ u ∈ nwa.toList, u.oneCell' = true) (hne : nb ≠ g) :
    Calls Try.prog 62 #[.slice (some ⟨g, 0, none⟩) n c, .int .i64 i, .slice (some ⟨nb, 0, none⟩) 1 1] w fun en w' => en = .returned (.slice (some ⟨g, 0, none⟩) (n + 1) c) ∧
      RowW w' base 72 2 (.slice (some ⟨g, 0, none⟩) (n + 1) c) (n + 1) (xs.take (i * 2) ++ nwa.toList ++ xs.drop (i * 2)) ∧ Fr (fun j => j = g) w w' := by
  rcases h.2.2 with ⟨hv, _⟩ | ⟨g', cap, cur, hv, hbg, hg, hnc, hcm, hcs, htake⟩
  · cases hv
  injection hv with hv1 hv2 hv3
  injection hv1 with hv1
  injection hv1 with hv1
  subst hv1 hv3
  have hlen : xs.length = n * 2 := h.1
  have hdl : (xs.drop (i * 2)).length = (n - i) * 2 := by rw [List.length_drop, hlen]; omega
  have hov : ∀ lb cb, (callFunc 96 #[.slice (some ⟨nb, 0, none⟩) 1 1, .slice (some ⟨g, (i + 1) * 2, none⟩) lb cb]).run Try.prog w = .ok (.value (.bool false)) w := fun lb cb => overIS w nb g _ lb cb nwa cur hne hnb hg (by omega)
  obtain ⟨w2, hcp, hB2, hf2⟩ := run_copyW (P := Try.prog) w.drew 64 64 3 72 2 g ((i + 1) * 2) (n - i) (c - (i + 1)) ⟨g, i * 2, none⟩ (n + 1 - i) (c - i) cur 72 (xs.drop (i * 2)) Try.underlying64 sizeIS hg
    (by rw [hdl]; congr 1; show n - i = min (n + 1 - i) (n - i); omega)
    (fun j v hj => by
      rw [List.getElem?_drop] at hj
      obtain ⟨b', o', e', hc'⟩ := h.rd (by have := (List.getElem?_eq_some_iff.1 hj).1; omega)
      injection e' with e'
      injection e' with e1 e2
      subst e1 e2
      have := hc' _ _ hj
      rw [Nat.zero_add] at this
      show w.cell? _ = _
      unfold Addr.add
      split
      · subst j; simpa using this
      · simpa using this)
    (by rw [hdl]; omega) (fun u hu => h.2.1 u (List.mem_of_mem_drop hu))
  have hos2 : (over cur ((i + 1) * 2) (xs.drop (i * 2))).size = cur.size := over_size _ _ _ (by rw [hdl]; omega)
  have hnb2 : Bk w2 nb 72 nwa := (Bk.fr hnb (Fr.refl NoBlk w).drew fun h => h).fr hf2 (fun e => hne e)
  obtain ⟨w3, hcp2, hB3, hf3⟩ := run_copyW (P := Try.prog) w2 64 64 3 72 2 g (i * 2) (n + 1 - i) (c - i) ⟨nb, 0, none⟩ 1 1 _ 72 nwa.toList Try.underlying64 sizeIS hB2
    (by rw [Array.length_toList, hs]; show 2 = min 1 (n + 1 - i) * 2; omega)
    (fun j v hj => by
      have := hnb2.cell j
      unfold Addr.add
      split
      · subst j; rw [this]; simpa using hj
      · simp only [Nat.zero_add]; rw [this]; simpa using hj)
    (by rw [hos2, Array.length_toList, hs]; omega) h1
  have hos3 : (over (over cur ((i + 1) * 2) (xs.drop (i * 2))) (i * 2) nwa.toList).size = cur.size := by rw [over_size _ _ _ (by rw [hos2, Array.length_toList, hs]; omega), hos2]
  have hnl : (xs.take (i * 2) ++ nwa.toList ++ xs.drop (i * 2)).length = (n + 1) * 2 := by rw [List.length_append, List.length_append, List.length_take, hdl, hlen, Array.length_toList, hs]; omega
  have HR : Hid (RowW w3 base 72 2 (.slice (some ⟨g, 0, none⟩) (n + 1) c) (n + 1) (xs.take (i * 2) ++ nwa.toList ++ xs.drop (i * 2))) := by
    refine ⟨hnl, fun u hu => ?_, .inr ⟨g, c, _, rfl, hbg, hB3, hroom, hcm, by rw [hos3]; exact hcs, ?_⟩⟩
    · rcases List.mem_append.1 hu with h' | h'
      · rcases List.mem_append.1 h' with h' | h'
        · exact h.2.1 u (List.mem_of_mem_take h')
        · exact h1 u h'
      · exact h.2.1 u (List.mem_of_mem_drop h')
    · have e0 : (over (over cur ((i + 1) * 2) (xs.drop (i * 2))) (i * 2) nwa.toList).toList = (cur.toList.take ((i + 1) * 2) ++ xs.drop (i * 2) ++ cur.toList.drop ((i + 1) * 2 + (xs.drop (i * 2)).length)).take (i * 2) ++ nwa.toList ++ (cur.toList.take ((i + 1) * 2) ++ xs.drop (i * 2) ++ cur.toList.drop ((i + 1) * 2 + (xs.drop (i * 2)).length)).drop (i * 2 + nwa.toList.length) := rfl
      have e1 : (cur.toList.take ((i + 1) * 2) ++ xs.drop (i * 2) ++ cur.toList.drop ((i + 1) * 2 + (xs.drop (i * 2)).length)).take (i * 2) = xs.take (i * 2) := by
        rw [List.append_assoc, List.take_append_of_le_length (by rw [List.length_take, Array.length_toList]; omega), List.take_take, ← htake, List.take_take]
        congr 1
        omega
      have e2 : (cur.toList.take ((i + 1) * 2) ++ xs.drop (i * 2) ++ cur.toList.drop ((i + 1) * 2 + (xs.drop (i * 2)).length)).drop (i * 2 + nwa.toList.length) = xs.drop (i * 2) ++ cur.toList.drop ((i + 1) * 2 + (xs.drop (i * 2)).length) := by
        rw [List.append_assoc]
        exact List.drop_left' (by rw [List.length_take, Array.length_toList, Array.length_toList, hs]; omega)
      rw [e0, e1, e2, ← List.append_assoc]
      exact List.take_left' hnl
  have HFR : Hid (Fr (fun j => j = g) w w3) := (((Fr.refl (fun j => j = g) w).drew).trans hf2).trans hf3
  have hwi : IntKind.i64.wrap ((i : Int) + 1) = (i : Int) + 1 := IntWalk.i64_in _ (by omega)
  have hwn : IntKind.i64.wrap ((n : Int) + 1) = (n : Int) + 1 := IntWalk.i64_in _ (by omega)
  have hni : ¬ ((i : Int) = (n : Int)) := by omega
  have hci : ¬ (c = i) := by omega
  have hci1 : ¬ (c = i + 1) := by omega
  have hrc : (n : Int) + 1 ≤ (c : Int) := by omega
  have htn : ((i : Int) + 1).toNat = i + 1 := by omega
  have htn2 : ((n : Int) + 1).toNat = n + 1 := by omega
  have hb1 : (0 : Int) ≤ (i : Int) + 1 := by omega
  have hb2 : (0 : Int) ≤ (n : Int) + 1 := by omega
  have hb3 : (i : Int) ≤ (n : Int) + 1 := by omega
  have hb4 : (i : Int) + 1 ≤ (n : Int) + 1 := by omega
  have hb5 : i ≤ n := by omega
  clear h hg hcs htake hlen hdl hB2 hf2 hos2 hnb2 hB3 hf3 hos3 hnl hcm hnb
  go_enter Try.func62, Try.ntmps62
  go_wp2_with (simp only [hov])
  go_region_law (refine step_copyI rfl _ _ 64 64 rfl _ _ (by simp [Act.eval, Act.put]) (by simp [Act.eval, Act.put]) hcp ?_)
  go_wp2_with (at_builtin; go_loud (refine wpList_copyI rfl _ _ 64 64 rfl _ _ rfl rfl hcp2 ?_))
  go_ret
  exact ⟨rfl, HR.out, HFR.out⟩
theorem overPS (w : World) (nb g k lb cb : Nat) (nwa cur : Array Value) (hne : nb ≠ g) (hn : Bk w nb 63 nwa) (hg : Bk w g 63 cur) (hc : cur.size ≠ 0) :
    (callFunc 98 #[.slice (some ⟨nb, 0, none⟩) 1 1, .slice (some ⟨g, k, none⟩) lb cb]).run Try.prog w = .ok (.value (.bool false)) w := by
  rw [run_callFunc_extern Try.func98 (by kernel_rfl) (by kernel_rfl) (by kernel_rfl) (e := Extern.SlicesOverlaps.overlaps #[65, 65] #[4]) (by kernel_rfl),
    Lib.run_overlaps_apart w 65 4 63 Try.underlying65 1 (by intro w; kernel_rfl) ⟨nb, 0, none⟩ ⟨g, k, none⟩ 1 1 lb cb hne 63 63 nwa.size cur.size (by unfold Bk at hn; simp [World.shape?, hn]) (by unfold Bk at hg; simp [World.shape?, hg]) hc (hn.free 0) (hn.free _)]
  rfl
set_option maxRecDepth 100000 in
set_option maxHeartbeats 1000000 in
theorem insInPS_any (w : World) (base g n c i : Nat) (xs : List Value) (h : RowW w base 63 1 (.slice (some ⟨g, 0, none⟩) n c) n xs) (hin : i < n) (hroom : n + 1 ≤ c) (hn : n ≤ 1000) (nb : Nat) (nwa : Array Value) (hnb : Bk w nb 63 nwa) (hs : nwa.size = 1) (h1 : ∀ u ∈ nwa.toList, u.oneCell' = true) (hne : nb ≠ g) :
    Calls Try.prog 65 #[.slice (some ⟨g, 0, none⟩) n c, .int .i64 i, .slice (some ⟨nb, 0, none⟩) 1 1] w fun en w' => en = .returned (.slice (some ⟨g, 0, none⟩) (n + 1) c) ∧
      RowW w' base 63 1 (.slice (some ⟨g, 0, none⟩) (n + 1) c) (n + 1) (xs.take (i) ++ nwa.toList ++ xs.drop (i)) ∧ Fr (fun j => j = g) w w' := by
  rcases h.2.2 with ⟨hv, _⟩ | ⟨g', cap, cur, hv, hbg, hg, hnc, hcm, hcs, htake⟩
  · cases hv
  injection hv with hv1 hv2 hv3
  injection hv1 with hv1
  injection hv1 with hv1
  subst hv1 hv3
  have hlen : xs.length = n * 1 := h.1
  have hdl : (xs.drop (i)).length = (n - i) * 1 := by rw [List.length_drop, hlen]; omega
  have hov : ∀ lb cb, (callFunc 98 #[.slice (some ⟨nb, 0, none⟩) 1 1, .slice (some ⟨g, (i + 1), none⟩) lb cb]).run Try.prog w = .ok (.value (.bool false)) w := fun lb cb => overPS w nb g _ lb cb nwa cur hne hnb hg (by omega)
  obtain ⟨w2, hcp, hB2, hf2⟩ := run_copyW (P := Try.prog) w.drew 65 65 3 63 1 g ((i + 1)) (n - i) (c - (i + 1)) ⟨g, i, none⟩ (n + 1 - i) (c - i) cur 63 (xs.drop (i)) Try.underlying65 sizePS hg
    (by rw [hdl]; congr 1; show n - i = min (n + 1 - i) (n - i); omega)
    (fun j v hj => by
      rw [List.getElem?_drop] at hj
      obtain ⟨b', o', e', hc'⟩ := h.rd (by have := (List.getElem?_eq_some_iff.1 hj).1; omega)
      injection e' with e'
      injection e' with e1 e2
      subst e1 e2
      have := hc' _ _ hj
      rw [Nat.zero_add] at this
      show w.cell? _ = _
      unfold Addr.add
      split
      · subst j; simpa using this
      · simpa using this)
    (by rw [hdl]; omega) (fun u hu => h.2.1 u (List.mem_of_mem_drop hu))
  have hos2 : (over cur ((i + 1)) (xs.drop (i))).size = cur.size := over_size _ _ _ (by rw [hdl]; omega)
  have hnb2 : Bk w2 nb 63 nwa := (Bk.fr hnb (Fr.refl NoBlk w).drew fun h => h).fr hf2 (fun e => hne e)
  obtain ⟨w3, hcp2, hB3, hf3⟩ := run_copyW (P := Try.prog) w2 65 65 3 63 1 g (i) (n + 1 - i) (c - i) ⟨nb, 0, none⟩ 1 1 _ 63 nwa.toList Try.underlying65 sizePS hB2
    (by rw [Array.length_toList, hs]; show 1 = min 1 (n + 1 - i) * 1; omega)
    (fun j v hj => by
      have := hnb2.cell j
      unfold Addr.add
      split
      · subst j; rw [this]; simpa using hj
      · simp only [Nat.zero_add]; rw [this]; simpa using hj)
    (by rw [hos2, Array.length_toList, hs]; omega) h1
  have hos3 : (over (over cur ((i + 1)) (xs.drop (i))) (i) nwa.toList).size = cur.size := by rw [over_size _ _ _ (by rw [hos2, Array.length_toList, hs]; omega), hos2]
  have hnl : (xs.take (i) ++ nwa.toList ++ xs.drop (i)).length = (n + 1) * 1 := by rw [List.length_append, List.length_append, List.length_take, hdl, hlen, Array.length_toList, hs]; omega
  have HR : Hid (RowW w3 base 63 1 (.slice (some ⟨g, 0, none⟩) (n + 1) c) (n + 1) (xs.take (i) ++ nwa.toList ++ xs.drop (i))) := by
    refine ⟨hnl, fun u hu => ?_, .inr ⟨g, c, _, rfl, hbg, hB3, hroom, hcm, by rw [hos3]; exact hcs, ?_⟩⟩
    · rcases List.mem_append.1 hu with h' | h'
      · rcases List.mem_append.1 h' with h' | h'
        · exact h.2.1 u (List.mem_of_mem_take h')
        · exact h1 u h'
      · exact h.2.1 u (List.mem_of_mem_drop h')
    · have e0 : (over (over cur ((i + 1)) (xs.drop (i))) (i) nwa.toList).toList = (cur.toList.take ((i + 1)) ++ xs.drop (i) ++ cur.toList.drop ((i + 1) + (xs.drop (i)).length)).take (i) ++ nwa.toList ++ (cur.toList.take ((i + 1)) ++ xs.drop (i) ++ cur.toList.drop ((i + 1) + (xs.drop (i)).length)).drop (i + nwa.toList.length) := rfl
      have e1 : (cur.toList.take ((i + 1)) ++ xs.drop (i) ++ cur.toList.drop ((i + 1) + (xs.drop (i)).length)).take (i) = xs.take (i) := by
        rw [List.append_assoc, List.take_append_of_le_length (by rw [List.length_take, Array.length_toList]; omega), List.take_take, ← htake, List.take_take]
        congr 1
        omega
      have e2 : (cur.toList.take ((i + 1)) ++ xs.drop (i) ++ cur.toList.drop ((i + 1) + (xs.drop (i)).length)).drop (i + nwa.toList.length) = xs.drop (i) ++ cur.toList.drop ((i + 1) + (xs.drop (i)).length) := by
        rw [List.append_assoc]
        exact List.drop_left' (by rw [List.length_take, Array.length_toList, Array.length_toList, hs]; omega)
      rw [e0, e1, e2, ← List.append_assoc]
      exact List.take_left' hnl
  have HFR : Hid (Fr (fun j => j = g) w w3) := (((Fr.refl (fun j => j = g) w).drew).trans hf2).trans hf3
  have hwi : IntKind.i64.wrap ((i : Int) + 1) = (i : Int) + 1 := IntWalk.i64_in _ (by omega)
  have hwn : IntKind.i64.wrap ((n : Int) + 1) = (n : Int) + 1 := IntWalk.i64_in _ (by omega)
  have hni : ¬ ((i : Int) = (n : Int)) := by omega
  have hci : ¬ (c = i) := by omega
  have hci1 : ¬ (c = i + 1) := by omega
  have hrc : (n : Int) + 1 ≤ (c : Int) := by omega
  have htn : ((i : Int) + 1).toNat = i + 1 := by omega
  have htn2 : ((n : Int) + 1).toNat = n + 1 := by omega
  have hb1 : (0 : Int) ≤ (i : Int) + 1 := by omega
  have hb2 : (0 : Int) ≤ (n : Int) + 1 := by omega
  have hb3 : (i : Int) ≤ (n : Int) + 1 := by omega
  have hb4 : (i : Int) + 1 ≤ (n : Int) + 1 := by omega
  have hb5 : i ≤ n := by omega
  clear h hg hcs htake hlen hdl hB2 hf2 hos2 hnb2 hB3 hf3 hos3 hnl hcm hnb
  go_enter Try.func65, Try.ntmps65
  go_wp2_with (simp only [hov])
  go_region_law (refine step_copyI rfl _ _ 65 65 rfl _ _ (by simp [Act.eval, Act.put]) (by simp [Act.eval, Act.put]) hcp ?_)
  go_wp2_with (at_builtin; go_loud (refine wpList_copyI rfl _ _ 65 65 rfl _ _ rfl rfl hcp2 ?_))
  go_ret
  exact ⟨rfl, HR.out, HFR.out⟩
theorem overIB (w : World) (nb g k lb cb : Nat) (nwa cur : Array Value) (hne : nb ≠ g) (hn : Bk w nb 90 nwa) (hg : Bk w g 90 cur) (hc : cur.size ≠ 0) :
    (callFunc 100 #[.slice (some ⟨nb, 0, none⟩) 1 1, .slice (some ⟨g, k, none⟩) lb cb]).run Try.prog w = .ok (.value (.bool false)) w := by
  rw [run_callFunc_extern Try.func100 (by kernel_rfl) (by kernel_rfl) (by kernel_rfl) (e := Extern.SlicesOverlaps.overlaps #[79, 79] #[4]) (by kernel_rfl),
    Lib.run_overlaps_apart w 79 4 90 Try.underlying79 2 (by intro w; kernel_rfl) ⟨nb, 0, none⟩ ⟨g, k, none⟩ 1 1 lb cb hne 90 90 nwa.size cur.size (by unfold Bk at hn; simp [World.shape?, hn]) (by unfold Bk at hg; simp [World.shape?, hg]) hc (hn.free 0) (hn.free _)]
  rfl
set_option maxRecDepth 100000 in
set_option maxHeartbeats 1000000 in
theorem insInIB_any (w : World) (base g n c i : Nat) (xs : List Value) (h : RowW w base 90 2 (.slice (some ⟨g, 0, none⟩) n c) n xs) (hin : i < n) (hroom : n + 1 ≤ c) (hn : n ≤ 1000) (nb : Nat) (nwa : Array Value) (hnb : Bk w nb 90 nwa) (hs : nwa.size = 2) (h1 : ∀ u ∈ nwa.toList, u.oneCell' = true) (hne : nb ≠ g) :
    Calls Try.prog 70 #[.slice (some ⟨g, 0, none⟩) n c, .int .i64 i, .slice (some ⟨nb, 0, none⟩) 1 1] w fun en w' => en = .returned (.slice (some ⟨g, 0, none⟩) (n + 1) c) ∧
      RowW w' base 90 2 (.slice (some ⟨g, 0, none⟩) (n + 1) c) (n + 1) (xs.take (i * 2) ++ nwa.toList ++ xs.drop (i * 2)) ∧ Fr (fun j => j = g) w w' := by
  rcases h.2.2 with ⟨hv, _⟩ | ⟨g', cap, cur, hv, hbg, hg, hnc, hcm, hcs, htake⟩
  · cases hv
  injection hv with hv1 hv2 hv3
  injection hv1 with hv1
  injection hv1 with hv1
  subst hv1 hv3
  have hlen : xs.length = n * 2 := h.1
  have hdl : (xs.drop (i * 2)).length = (n - i) * 2 := by rw [List.length_drop, hlen]; omega
  have hov : ∀ lb cb, (callFunc 100 #[.slice (some ⟨nb, 0, none⟩) 1 1, .slice (some ⟨g, (i + 1) * 2, none⟩) lb cb]).run Try.prog w = .ok (.value (.bool false)) w := fun lb cb => overIB w nb g _ lb cb nwa cur hne hnb hg (by omega)
  obtain ⟨w2, hcp, hB2, hf2⟩ := run_copyW (P := Try.prog) w.drew 79 79 3 90 2 g ((i + 1) * 2) (n - i) (c - (i + 1)) ⟨g, i * 2, none⟩ (n + 1 - i) (c - i) cur 90 (xs.drop (i * 2)) Try.underlying79 sizeIB hg
    (by rw [hdl]; congr 1; show n - i = min (n + 1 - i) (n - i); omega)
    (fun j v hj => by
      rw [List.getElem?_drop] at hj
      obtain ⟨b', o', e', hc'⟩ := h.rd (by have := (List.getElem?_eq_some_iff.1 hj).1; omega)
      injection e' with e'
      injection e' with e1 e2
      subst e1 e2
      have := hc' _ _ hj
      rw [Nat.zero_add] at this
      show w.cell? _ = _
      unfold Addr.add
      split
      · subst j; simpa using this
      · simpa using this)
    (by rw [hdl]; omega) (fun u hu => h.2.1 u (List.mem_of_mem_drop hu))
  have hos2 : (over cur ((i + 1) * 2) (xs.drop (i * 2))).size = cur.size := over_size _ _ _ (by rw [hdl]; omega)
  have hnb2 : Bk w2 nb 90 nwa := (Bk.fr hnb (Fr.refl NoBlk w).drew fun h => h).fr hf2 (fun e => hne e)
  obtain ⟨w3, hcp2, hB3, hf3⟩ := run_copyW (P := Try.prog) w2 79 79 3 90 2 g (i * 2) (n + 1 - i) (c - i) ⟨nb, 0, none⟩ 1 1 _ 90 nwa.toList Try.underlying79 sizeIB hB2
    (by rw [Array.length_toList, hs]; show 2 = min 1 (n + 1 - i) * 2; omega)
    (fun j v hj => by
      have := hnb2.cell j
      unfold Addr.add
      split
      · subst j; rw [this]; simpa using hj
      · simp only [Nat.zero_add]; rw [this]; simpa using hj)
    (by rw [hos2, Array.length_toList, hs]; omega) h1
  have hos3 : (over (over cur ((i + 1) * 2) (xs.drop (i * 2))) (i * 2) nwa.toList).size = cur.size := by rw [over_size _ _ _ (by rw [hos2, Array.length_toList, hs]; omega), hos2]
  have hnl : (xs.take (i * 2) ++ nwa.toList ++ xs.drop (i * 2)).length = (n + 1) * 2 := by rw [List.length_append, List.length_append, List.length_take, hdl, hlen, Array.length_toList, hs]; omega
  have HR : Hid (RowW w3 base 90 2 (.slice (some ⟨g, 0, none⟩) (n + 1) c) (n + 1) (xs.take (i * 2) ++ nwa.toList ++ xs.drop (i * 2))) := by
    refine ⟨hnl, fun u hu => ?_, .inr ⟨g, c, _, rfl, hbg, hB3, hroom, hcm, by rw [hos3]; exact hcs, ?_⟩⟩
    · rcases List.mem_append.1 hu with h' | h'
      · rcases List.mem_append.1 h' with h' | h'
        · exact h.2.1 u (List.mem_of_mem_take h')
        · exact h1 u h'
      · exact h.2.1 u (List.mem_of_mem_drop h')
    · have e0 : (over (over cur ((i + 1) * 2) (xs.drop (i * 2))) (i * 2) nwa.toList).toList = (cur.toList.take ((i + 1) * 2) ++ xs.drop (i * 2) ++ cur.toList.drop ((i + 1) * 2 + (xs.drop (i * 2)).length)).take (i * 2) ++ nwa.toList ++ (cur.toList.take ((i + 1) * 2) ++ xs.drop (i * 2) ++ cur.toList.drop ((i + 1) * 2 + (xs.drop (i * 2)).length)).drop (i * 2 + nwa.toList.length) := rfl
      have e1 : (cur.toList.take ((i + 1) * 2) ++ xs.drop (i * 2) ++ cur.toList.drop ((i + 1) * 2 + (xs.drop (i * 2)).length)).take (i * 2) = xs.take (i * 2) := by
        rw [List.append_assoc, List.take_append_of_le_length (by rw [List.length_take, Array.length_toList]; omega), List.take_take, ← htake, List.take_take]
        congr 1
        omega
      have e2 : (cur.toList.take ((i + 1) * 2) ++ xs.drop (i * 2) ++ cur.toList.drop ((i + 1) * 2 + (xs.drop (i * 2)).length)).drop (i * 2 + nwa.toList.length) = xs.drop (i * 2) ++ cur.toList.drop ((i + 1) * 2 + (xs.drop (i * 2)).length) := by
        rw [List.append_assoc]
        exact List.drop_left' (by rw [List.length_take, Array.length_toList, Array.length_toList, hs]; omega)
      rw [e0, e1, e2, ← List.append_assoc]
      exact List.take_left' hnl
  have HFR : Hid (Fr (fun j => j = g) w w3) := (((Fr.refl (fun j => j = g) w).drew).trans hf2).trans hf3
  have hwi : IntKind.i64.wrap ((i : Int) + 1) = (i : Int) + 1 := IntWalk.i64_in _ (by omega)
  have hwn : IntKind.i64.wrap ((n : Int) + 1) = (n : Int) + 1 := IntWalk.i64_in _ (by omega)
  have hni : ¬ ((i : Int) = (n : Int)) := by omega
  have hci : ¬ (c = i) := by omega
  have hci1 : ¬ (c = i + 1) := by omega
  have hrc : (n : Int) + 1 ≤ (c : Int) := by omega
  have htn : ((i : Int) + 1).toNat = i + 1 := by omega
  have htn2 : ((n : Int) + 1).toNat = n + 1 := by omega
  have hb1 : (0 : Int) ≤ (i : Int) + 1 := by omega
  have hb2 : (0 : Int) ≤ (n : Int) + 1 := by omega
  have hb3 : (i : Int) ≤ (n : Int) + 1 := by omega
  have hb4 : (i : Int) + 1 ≤ (n : Int) + 1 := by omega
  have hb5 : i ≤ n := by omega
  clear h hg hcs htake hlen hdl hB2 hf2 hos2 hnb2 hB3 hf3 hos3 hnl hcm hnb
  go_enter Try.func70, Try.ntmps70
  go_wp2_with (simp only [hov])
  go_region_law (refine step_copyI rfl _ _ 79 79 rfl _ _ (by simp [Act.eval, Act.put]) (by simp [Act.eval, Act.put]) hcp ?_)
  go_wp2_with (at_builtin; go_loud (refine wpList_copyI rfl _ _ 79 79 rfl _ _ rfl rfl hcp2 ?_))
  go_ret
  exact ⟨rfl, HR.out, HFR.out⟩
theorem overPB (w : World) (nb g k lb cb : Nat) (nwa cur : Array Value) (hne : nb ≠ g) (hn : Bk w nb 78 nwa) (hg : Bk w g 78 cur) (hc : cur.size ≠ 0) :
    (callFunc 102 #[.slice (some ⟨nb, 0, none⟩) 1 1, .slice (some ⟨g, k, none⟩) lb cb]).run Try.prog w = .ok (.value (.bool false)) w := by
  rw [run_callFunc_extern Try.func102 (by kernel_rfl) (by kernel_rfl) (by kernel_rfl) (e := Extern.SlicesOverlaps.overlaps #[80, 80] #[4]) (by kernel_rfl),
    Lib.run_overlaps_apart w 80 4 78 Try.underlying80 1 (by intro w; kernel_rfl) ⟨nb, 0, none⟩ ⟨g, k, none⟩ 1 1 lb cb hne 78 78 nwa.size cur.size (by unfold Bk at hn; simp [World.shape?, hn]) (by unfold Bk at hg; simp [World.shape?, hg]) hc (hn.free 0) (hn.free _)]
  rfl
set_option maxRecDepth 100000 in
set_option maxHeartbeats 1000000 in
theorem insInPB_any (w : World) (base g n c i : Nat) (xs : List Value) (h : RowW w base 78 1 (.slice (some ⟨g, 0, none⟩) n c) n xs) (hin : i < n) (hroom : n + 1 ≤ c) (hn : n ≤ 1000) (nb : Nat) (nwa : Array Value) (hnb : Bk w nb 78 nwa) (hs : nwa.size = 1) (h1 : ∀ u ∈ nwa.toList, u.oneCell' = true) (hne : nb ≠ g) :
    Calls Try.prog 73 #[.slice (some ⟨g, 0, none⟩) n c, .int .i64 i, .slice (some ⟨nb, 0, none⟩) 1 1] w fun en w' => en = .returned (.slice (some ⟨g, 0, none⟩) (n + 1) c) ∧
      RowW w' base 78 1 (.slice (some ⟨g, 0, none⟩) (n + 1) c) (n + 1) (xs.take (i) ++ nwa.toList ++ xs.drop (i)) ∧ Fr (fun j => j = g) w w' := by
  rcases h.2.2 with ⟨hv, _⟩ | ⟨g', cap, cur, hv, hbg, hg, hnc, hcm, hcs, htake⟩
  · cases hv
  injection hv with hv1 hv2 hv3
  injection hv1 with hv1
  injection hv1 with hv1
  subst hv1 hv3
  have hlen : xs.length = n * 1 := h.1
  have hdl : (xs.drop (i)).length = (n - i) * 1 := by rw [List.length_drop, hlen]; omega
  have hov : ∀ lb cb, (callFunc 102 #[.slice (some ⟨nb, 0, none⟩) 1 1, .slice (some ⟨g, (i + 1), none⟩) lb cb]).run Try.prog w = .ok (.value (.bool false)) w := fun lb cb => overPB w nb g _ lb cb nwa cur hne hnb hg (by omega)
  obtain ⟨w2, hcp, hB2, hf2⟩ := run_copyW (P := Try.prog) w.drew 80 80 3 78 1 g ((i + 1)) (n - i) (c - (i + 1)) ⟨g, i, none⟩ (n + 1 - i) (c - i) cur 78 (xs.drop (i)) Try.underlying80 sizePB hg
    (by rw [hdl]; congr 1; show n - i = min (n + 1 - i) (n - i); omega)
    (fun j v hj => by
      rw [List.getElem?_drop] at hj
      obtain ⟨b', o', e', hc'⟩ := h.rd (by have := (List.getElem?_eq_some_iff.1 hj).1; omega)
      injection e' with e'
      injection e' with e1 e2
      subst e1 e2
      have := hc' _ _ hj
      rw [Nat.zero_add] at this
      show w.cell? _ = _
      unfold Addr.add
      split
      · subst j; simpa using this
      · simpa using this)
    (by rw [hdl]; omega) (fun u hu => h.2.1 u (List.mem_of_mem_drop hu))
  have hos2 : (over cur ((i + 1)) (xs.drop (i))).size = cur.size := over_size _ _ _ (by rw [hdl]; omega)
  have hnb2 : Bk w2 nb 78 nwa := (Bk.fr hnb (Fr.refl NoBlk w).drew fun h => h).fr hf2 (fun e => hne e)
  obtain ⟨w3, hcp2, hB3, hf3⟩ := run_copyW (P := Try.prog) w2 80 80 3 78 1 g (i) (n + 1 - i) (c - i) ⟨nb, 0, none⟩ 1 1 _ 78 nwa.toList Try.underlying80 sizePB hB2
    (by rw [Array.length_toList, hs]; show 1 = min 1 (n + 1 - i) * 1; omega)
    (fun j v hj => by
      have := hnb2.cell j
      unfold Addr.add
      split
      · subst j; rw [this]; simpa using hj
      · simp only [Nat.zero_add]; rw [this]; simpa using hj)
    (by rw [hos2, Array.length_toList, hs]; omega) h1
  have hos3 : (over (over cur ((i + 1)) (xs.drop (i))) (i) nwa.toList).size = cur.size := by rw [over_size _ _ _ (by rw [hos2, Array.length_toList, hs]; omega), hos2]
  have hnl : (xs.take (i) ++ nwa.toList ++ xs.drop (i)).length = (n + 1) * 1 := by rw [List.length_append, List.length_append, List.length_take, hdl, hlen, Array.length_toList, hs]; omega
  have HR : Hid (RowW w3 base 78 1 (.slice (some ⟨g, 0, none⟩) (n + 1) c) (n + 1) (xs.take (i) ++ nwa.toList ++ xs.drop (i))) := by
    refine ⟨hnl, fun u hu => ?_, .inr ⟨g, c, _, rfl, hbg, hB3, hroom, hcm, by rw [hos3]; exact hcs, ?_⟩⟩
    · rcases List.mem_append.1 hu with h' | h'
      · rcases List.mem_append.1 h' with h' | h'
        · exact h.2.1 u (List.mem_of_mem_take h')
        · exact h1 u h'
      · exact h.2.1 u (List.mem_of_mem_drop h')
    · have e0 : (over (over cur ((i + 1)) (xs.drop (i))) (i) nwa.toList).toList = (cur.toList.take ((i + 1)) ++ xs.drop (i) ++ cur.toList.drop ((i + 1) + (xs.drop (i)).length)).take (i) ++ nwa.toList ++ (cur.toList.take ((i + 1)) ++ xs.drop (i) ++ cur.toList.drop ((i + 1) + (xs.drop (i)).length)).drop (i + nwa.toList.length) := rfl
      have e1 : (cur.toList.take ((i + 1)) ++ xs.drop (i) ++ cur.toList.drop ((i + 1) + (xs.drop (i)).length)).take (i) = xs.take (i) := by
        rw [List.append_assoc, List.take_append_of_le_length (by rw [List.length_take, Array.length_toList]; omega), List.take_take, ← htake, List.take_take]
        congr 1
        omega
      have e2 : (cur.toList.take ((i + 1)) ++ xs.drop (i) ++ cur.toList.drop ((i + 1) + (xs.drop (i)).length)).drop (i + nwa.toList.length) = xs.drop (i) ++ cur.toList.drop ((i + 1) + (xs.drop (i)).length) := by
        rw [List.append_assoc]
        exact List.drop_left' (by rw [List.length_take, Array.length_toList, Array.length_toList, hs]; omega)
      rw [e0, e1, e2, ← List.append_assoc]
      exact List.take_left' hnl
  have HFR : Hid (Fr (fun j => j = g) w w3) := (((Fr.refl (fun j => j = g) w).drew).trans hf2).trans hf3
  have hwi : IntKind.i64.wrap ((i : Int) + 1) = (i : Int) + 1 := IntWalk.i64_in _ (by omega)
  have hwn : IntKind.i64.wrap ((n : Int) + 1) = (n : Int) + 1 := IntWalk.i64_in _ (by omega)
  have hni : ¬ ((i : Int) = (n : Int)) := by omega
  have hci : ¬ (c = i) := by omega
  have hci1 : ¬ (c = i + 1) := by omega
  have hrc : (n : Int) + 1 ≤ (c : Int) := by omega
  have htn : ((i : Int) + 1).toNat = i + 1 := by omega
  have htn2 : ((n : Int) + 1).toNat = n + 1 := by omega
  have hb1 : (0 : Int) ≤ (i : Int) + 1 := by omega
  have hb2 : (0 : Int) ≤ (n : Int) + 1 := by omega
  have hb3 : (i : Int) ≤ (n : Int) + 1 := by omega
  have hb4 : (i : Int) + 1 ≤ (n : Int) + 1 := by omega
  have hb5 : i ≤ n := by omega
  clear h hg hcs htake hlen hdl hB2 hf2 hos2 hnb2 hB3 hf3 hos3 hnl hcm hnb
  go_enter Try.func73, Try.ntmps73
  go_wp2_with (simp only [hov])
  go_region_law (refine step_copyI rfl _ _ 80 80 rfl _ _ (by simp [Act.eval, Act.put]) (by simp [Act.eval, Act.put]) hcp ?_)
  go_wp2_with (at_builtin; go_loud (refine wpList_copyI rfl _ _ 80 80 rfl _ _ rfl rfl hcp2 ?_))
  go_ret
  exact ⟨rfl, HR.out, HFR.out⟩
theorem overIN (w : World) (nb g k lb cb : Nat) (nwa cur : Array Value) (hne : nb ≠ g) (hn : Bk w nb 131 nwa) (hg : Bk w g 131 cur) (hc : cur.size ≠ 0) :
    (callFunc 111 #[.slice (some ⟨nb, 0, none⟩) 1 1, .slice (some ⟨g, k, none⟩) lb cb]).run Try.prog w = .ok (.value (.bool false)) w := by
  rw [run_callFunc_extern Try.func111 (by kernel_rfl) (by kernel_rfl) (by kernel_rfl) (e := Extern.SlicesOverlaps.overlaps #[92, 92] #[4]) (by kernel_rfl),
    Lib.run_overlaps_apart w 92 4 131 Try.underlying92 2 (by intro w; kernel_rfl) ⟨nb, 0, none⟩ ⟨g, k, none⟩ 1 1 lb cb hne 131 131 nwa.size cur.size (by unfold Bk at hn; simp [World.shape?, hn]) (by unfold Bk at hg; simp [World.shape?, hg]) hc (hn.free 0) (hn.free _)]
  rfl
set_option maxRecDepth 100000 in
set_option maxHeartbeats 1000000 in
theorem insInIN_any (w : World) (base g n c i : Nat) (xs : List Value) (h : RowW w base 131 2 (.slice (some ⟨g, 0, none⟩) n c) n xs) (hin : i < n) (hroom : n + 1 ≤ c) (hn : n ≤ 1000) (nb : Nat) (nwa : Array Value) (hnb : Bk w nb 131 nwa) (hs : nwa.size = 2) (h1 : ∀ u ∈ nwa.toList, u.oneCell' = true) (hne : nb ≠ g) :
    Calls Try.prog 84 #[.slice (some ⟨g, 0, none⟩) n c, .int .i64 i, .slice (some ⟨nb, 0, none⟩) 1 1] w fun en w' => en = .returned (.slice (some ⟨g, 0, none⟩) (n + 1) c) ∧
      RowW w' base 131 2 (.slice (some ⟨g, 0, none⟩) (n + 1) c) (n + 1) (xs.take (i * 2) ++ nwa.toList ++ xs.drop (i * 2)) ∧ Fr (fun j => j = g) w w' := by
  rcases h.2.2 with ⟨hv, _⟩ | ⟨g', cap, cur, hv, hbg, hg, hnc, hcm, hcs, htake⟩
  · cases hv
  injection hv with hv1 hv2 hv3
  injection hv1 with hv1
  injection hv1 with hv1
  subst hv1 hv3
  have hlen : xs.length = n * 2 := h.1
  have hdl : (xs.drop (i * 2)).length = (n - i) * 2 := by rw [List.length_drop, hlen]; omega
  have hov : ∀ lb cb, (callFunc 111 #[.slice (some ⟨nb, 0, none⟩) 1 1, .slice (some ⟨g, (i + 1) * 2, none⟩) lb cb]).run Try.prog w = .ok (.value (.bool false)) w := fun lb cb => overIN w nb g _ lb cb nwa cur hne hnb hg (by omega)
  obtain ⟨w2, hcp, hB2, hf2⟩ := run_copyW (P := Try.prog) w.drew 92 92 3 131 2 g ((i + 1) * 2) (n - i) (c - (i + 1)) ⟨g, i * 2, none⟩ (n + 1 - i) (c - i) cur 131 (xs.drop (i * 2)) Try.underlying92 sizeIN hg
    (by rw [hdl]; congr 1; show n - i = min (n + 1 - i) (n - i); omega)
    (fun j v hj => by
      rw [List.getElem?_drop] at hj
      obtain ⟨b', o', e', hc'⟩ := h.rd (by have := (List.getElem?_eq_some_iff.1 hj).1; omega)
      injection e' with e'
      injection e' with e1 e2
      subst e1 e2
      have := hc' _ _ hj
      rw [Nat.zero_add] at this
      show w.cell? _ = _
      unfold Addr.add
      split
      · subst j; simpa using this
      · simpa using this)
    (by rw [hdl]; omega) (fun u hu => h.2.1 u (List.mem_of_mem_drop hu))
  have hos2 : (over cur ((i + 1) * 2) (xs.drop (i * 2))).size = cur.size := over_size _ _ _ (by rw [hdl]; omega)
  have hnb2 : Bk w2 nb 131 nwa := (Bk.fr hnb (Fr.refl NoBlk w).drew fun h => h).fr hf2 (fun e => hne e)
  obtain ⟨w3, hcp2, hB3, hf3⟩ := run_copyW (P := Try.prog) w2 92 92 3 131 2 g (i * 2) (n + 1 - i) (c - i) ⟨nb, 0, none⟩ 1 1 _ 131 nwa.toList Try.underlying92 sizeIN hB2
    (by rw [Array.length_toList, hs]; show 2 = min 1 (n + 1 - i) * 2; omega)
    (fun j v hj => by
      have := hnb2.cell j
      unfold Addr.add
      split
      · subst j; rw [this]; simpa using hj
      · simp only [Nat.zero_add]; rw [this]; simpa using hj)
    (by rw [hos2, Array.length_toList, hs]; omega) h1
  have hos3 : (over (over cur ((i + 1) * 2) (xs.drop (i * 2))) (i * 2) nwa.toList).size = cur.size := by rw [over_size _ _ _ (by rw [hos2, Array.length_toList, hs]; omega), hos2]
  have hnl : (xs.take (i * 2) ++ nwa.toList ++ xs.drop (i * 2)).length = (n + 1) * 2 := by rw [List.length_append, List.length_append, List.length_take, hdl, hlen, Array.length_toList, hs]; omega
  have HR : Hid (RowW w3 base 131 2 (.slice (some ⟨g, 0, none⟩) (n + 1) c) (n + 1) (xs.take (i * 2) ++ nwa.toList ++ xs.drop (i * 2))) := by
    refine ⟨hnl, fun u hu => ?_, .inr ⟨g, c, _, rfl, hbg, hB3, hroom, hcm, by rw [hos3]; exact hcs, ?_⟩⟩
    · rcases List.mem_append.1 hu with h' | h'
      · rcases List.mem_append.1 h' with h' | h'
        · exact h.2.1 u (List.mem_of_mem_take h')
        · exact h1 u h'
      · exact h.2.1 u (List.mem_of_mem_drop h')
    · have e0 : (over (over cur ((i + 1) * 2) (xs.drop (i * 2))) (i * 2) nwa.toList).toList = (cur.toList.take ((i + 1) * 2) ++ xs.drop (i * 2) ++ cur.toList.drop ((i + 1) * 2 + (xs.drop (i * 2)).length)).take (i * 2) ++ nwa.toList ++ (cur.toList.take ((i + 1) * 2) ++ xs.drop (i * 2) ++ cur.toList.drop ((i + 1) * 2 + (xs.drop (i * 2)).length)).drop (i * 2 + nwa.toList.length) := rfl
      have e1 : (cur.toList.take ((i + 1) * 2) ++ xs.drop (i * 2) ++ cur.toList.drop ((i + 1) * 2 + (xs.drop (i * 2)).length)).take (i * 2) = xs.take (i * 2) := by
        rw [List.append_assoc, List.take_append_of_le_length (by rw [List.length_take, Array.length_toList]; omega), List.take_take, ← htake, List.take_take]
        congr 1
        omega
      have e2 : (cur.toList.take ((i + 1) * 2) ++ xs.drop (i * 2) ++ cur.toList.drop ((i + 1) * 2 + (xs.drop (i * 2)).length)).drop (i * 2 + nwa.toList.length) = xs.drop (i * 2) ++ cur.toList.drop ((i + 1) * 2 + (xs.drop (i * 2)).length) := by
        rw [List.append_assoc]
        exact List.drop_left' (by rw [List.length_take, Array.length_toList, Array.length_toList, hs]; omega)
      rw [e0, e1, e2, ← List.append_assoc]
      exact List.take_left' hnl
  have HFR : Hid (Fr (fun j => j = g) w w3) := (((Fr.refl (fun j => j = g) w).drew).trans hf2).trans hf3
  have hwi : IntKind.i64.wrap ((i : Int) + 1) = (i : Int) + 1 := IntWalk.i64_in _ (by omega)
  have hwn : IntKind.i64.wrap ((n : Int) + 1) = (n : Int) + 1 := IntWalk.i64_in _ (by omega)
  have hni : ¬ ((i : Int) = (n : Int)) := by omega
  have hci : ¬ (c = i) := by omega
  have hci1 : ¬ (c = i + 1) := by omega
  have hrc : (n : Int) + 1 ≤ (c : Int) := by omega
  have htn : ((i : Int) + 1).toNat = i + 1 := by omega
  have htn2 : ((n : Int) + 1).toNat = n + 1 := by omega
  have hb1 : (0 : Int) ≤ (i : Int) + 1 := by omega
  have hb2 : (0 : Int) ≤ (n : Int) + 1 := by omega
  have hb3 : (i : Int) ≤ (n : Int) + 1 := by omega
  have hb4 : (i : Int) + 1 ≤ (n : Int) + 1 := by omega
  have hb5 : i ≤ n := by omega
  clear h hg hcs htake hlen hdl hB2 hf2 hos2 hnb2 hB3 hf3 hos3 hnl hcm hnb
  go_enter Try.func84, Try.ntmps84
  go_wp2_with (simp only [hov])
  go_region_law (refine step_copyI rfl _ _ 92 92 rfl _ _ (by simp [Act.eval, Act.put]) (by simp [Act.eval, Act.put]) hcp ?_)
  go_wp2_with (at_builtin; go_loud (refine wpList_copyI rfl _ _ 92 92 rfl _ _ rfl rfl hcp2 ?_))
  go_ret
  exact ⟨rfl, HR.out, HFR.out⟩
theorem overPN (w : World) (nb g k lb cb : Nat) (nwa cur : Array Value) (hne : nb ≠ g) (hn : Bk w nb 91 nwa) (hg : Bk w g 91 cur) (hc : cur.size ≠ 0) :
    (callFunc 113 #[.slice (some ⟨nb, 0, none⟩) 1 1, .slice (some ⟨g, k, none⟩) lb cb]).run Try.prog w = .ok (.value (.bool false)) w := by
  rw [run_callFunc_extern Try.func113 (by kernel_rfl) (by kernel_rfl) (by kernel_rfl) (e := Extern.SlicesOverlaps.overlaps #[93, 93] #[4]) (by kernel_rfl),
    Lib.run_overlaps_apart w 93 4 91 Try.underlying93 1 (by intro w; kernel_rfl) ⟨nb, 0, none⟩ ⟨g, k, none⟩ 1 1 lb cb hne 91 91 nwa.size cur.size (by unfold Bk at hn; simp [World.shape?, hn]) (by unfold Bk at hg; simp [World.shape?, hg]) hc (hn.free 0) (hn.free _)]
  rfl
set_option maxRecDepth 100000 in
set_option maxHeartbeats 1000000 in
theorem insInPN_any (w : World) (base g n c i : Nat) (xs : List Value) (h : RowW w base 91 1 (.slice (some ⟨g, 0, none⟩) n c) n xs) (hin : i < n) (hroom : n + 1 ≤ c) (hn : n ≤ 1000) (nb : Nat) (nwa : Array Value) (hnb : Bk w nb 91 nwa) (hs : nwa.size = 1) (h1 : ∀ u ∈ nwa.toList, u.oneCell' = true) (hne : nb ≠ g) :
    Calls Try.prog 87 #[.slice (some ⟨g, 0, none⟩) n c, .int .i64 i, .slice (some ⟨nb, 0, none⟩) 1 1] w fun en w' => en = .returned (.slice (some ⟨g, 0, none⟩) (n + 1) c) ∧
      RowW w' base 91 1 (.slice (some ⟨g, 0, none⟩) (n + 1) c) (n + 1) (xs.take (i) ++ nwa.toList ++ xs.drop (i)) ∧ Fr (fun j => j = g) w w' := by
  rcases h.2.2 with ⟨hv, _⟩ | ⟨g', cap, cur, hv, hbg, hg, hnc, hcm, hcs, htake⟩
  · cases hv
  injection hv with hv1 hv2 hv3
  injection hv1 with hv1
  injection hv1 with hv1
  subst hv1 hv3
  have hlen : xs.length = n * 1 := h.1
  have hdl : (xs.drop (i)).length = (n - i) * 1 := by rw [List.length_drop, hlen]; omega
  have hov : ∀ lb cb, (callFunc 113 #[.slice (some ⟨nb, 0, none⟩) 1 1, .slice (some ⟨g, (i + 1), none⟩) lb cb]).run Try.prog w = .ok (.value (.bool false)) w := fun lb cb => overPN w nb g _ lb cb nwa cur hne hnb hg (by omega)
  obtain ⟨w2, hcp, hB2, hf2⟩ := run_copyW (P := Try.prog) w.drew 93 93 3 91 1 g ((i + 1)) (n - i) (c - (i + 1)) ⟨g, i, none⟩ (n + 1 - i) (c - i) cur 91 (xs.drop (i)) Try.underlying93 sizePN hg
    (by rw [hdl]; congr 1; show n - i = min (n + 1 - i) (n - i); omega)
    (fun j v hj => by
      rw [List.getElem?_drop] at hj
      obtain ⟨b', o', e', hc'⟩ := h.rd (by have := (List.getElem?_eq_some_iff.1 hj).1; omega)
      injection e' with e'
      injection e' with e1 e2
      subst e1 e2
      have := hc' _ _ hj
      rw [Nat.zero_add] at this
      show w.cell? _ = _
      unfold Addr.add
      split
      · subst j; simpa using this
      · simpa using this)
    (by rw [hdl]; omega) (fun u hu => h.2.1 u (List.mem_of_mem_drop hu))
  have hos2 : (over cur ((i + 1)) (xs.drop (i))).size = cur.size := over_size _ _ _ (by rw [hdl]; omega)
  have hnb2 : Bk w2 nb 91 nwa := (Bk.fr hnb (Fr.refl NoBlk w).drew fun h => h).fr hf2 (fun e => hne e)
  obtain ⟨w3, hcp2, hB3, hf3⟩ := run_copyW (P := Try.prog) w2 93 93 3 91 1 g (i) (n + 1 - i) (c - i) ⟨nb, 0, none⟩ 1 1 _ 91 nwa.toList Try.underlying93 sizePN hB2
    (by rw [Array.length_toList, hs]; show 1 = min 1 (n + 1 - i) * 1; omega)
    (fun j v hj => by
      have := hnb2.cell j
      unfold Addr.add
      split
      · subst j; rw [this]; simpa using hj
      · simp only [Nat.zero_add]; rw [this]; simpa using hj)
    (by rw [hos2, Array.length_toList, hs]; omega) h1
  have hos3 : (over (over cur ((i + 1)) (xs.drop (i))) (i) nwa.toList).size = cur.size := by rw [over_size _ _ _ (by rw [hos2, Array.length_toList, hs]; omega), hos2]
  have hnl : (xs.take (i) ++ nwa.toList ++ xs.drop (i)).length = (n + 1) * 1 := by rw [List.length_append, List.length_append, List.length_take, hdl, hlen, Array.length_toList, hs]; omega
  have HR : Hid (RowW w3 base 91 1 (.slice (some ⟨g, 0, none⟩) (n + 1) c) (n + 1) (xs.take (i) ++ nwa.toList ++ xs.drop (i))) := by
    refine ⟨hnl, fun u hu => ?_, .inr ⟨g, c, _, rfl, hbg, hB3, hroom, hcm, by rw [hos3]; exact hcs, ?_⟩⟩
    · rcases List.mem_append.1 hu with h' | h'
      · rcases List.mem_append.1 h' with h' | h'
        · exact h.2.1 u (List.mem_of_mem_take h')
        · exact h1 u h'
      · exact h.2.1 u (List.mem_of_mem_drop h')
    · have e0 : (over (over cur ((i + 1)) (xs.drop (i))) (i) nwa.toList).toList = (cur.toList.take ((i + 1)) ++ xs.drop (i) ++ cur.toList.drop ((i + 1) + (xs.drop (i)).length)).take (i) ++ nwa.toList ++ (cur.toList.take ((i + 1)) ++ xs.drop (i) ++ cur.toList.drop ((i + 1) + (xs.drop (i)).length)).drop (i + nwa.toList.length) := rfl
      have e1 : (cur.toList.take ((i + 1)) ++ xs.drop (i) ++ cur.toList.drop ((i + 1) + (xs.drop (i)).length)).take (i) = xs.take (i) := by
        rw [List.append_assoc, List.take_append_of_le_length (by rw [List.length_take, Array.length_toList]; omega), List.take_take, ← htake, List.take_take]
        congr 1
        omega
      have e2 : (cur.toList.take ((i + 1)) ++ xs.drop (i) ++ cur.toList.drop ((i + 1) + (xs.drop (i)).length)).drop (i + nwa.toList.length) = xs.drop (i) ++ cur.toList.drop ((i + 1) + (xs.drop (i)).length) := by
        rw [List.append_assoc]
        exact List.drop_left' (by rw [List.length_take, Array.length_toList, Array.length_toList, hs]; omega)
      rw [e0, e1, e2, ← List.append_assoc]
      exact List.take_left' hnl
  have HFR : Hid (Fr (fun j => j = g) w w3) := (((Fr.refl (fun j => j = g) w).drew).trans hf2).trans hf3
  have hwi : IntKind.i64.wrap ((i : Int) + 1) = (i : Int) + 1 := IntWalk.i64_in _ (by omega)
  have hwn : IntKind.i64.wrap ((n : Int) + 1) = (n : Int) + 1 := IntWalk.i64_in _ (by omega)
  have hni : ¬ ((i : Int) = (n : Int)) := by omega
  have hci : ¬ (c = i) := by omega
  have hci1 : ¬ (c = i + 1) := by omega
  have hrc : (n : Int) + 1 ≤ (c : Int) := by omega
  have htn : ((i : Int) + 1).toNat = i + 1 := by omega
  have htn2 : ((n : Int) + 1).toNat = n + 1 := by omega
  have hb1 : (0 : Int) ≤ (i : Int) + 1 := by omega
  have hb2 : (0 : Int) ≤ (n : Int) + 1 := by omega
  have hb3 : (i : Int) ≤ (n : Int) + 1 := by omega
  have hb4 : (i : Int) + 1 ≤ (n : Int) + 1 := by omega
  have hb5 : i ≤ n := by omega
  clear h hg hcs htake hlen hdl hB2 hf2 hos2 hnb2 hB3 hf3 hos3 hnl hcm hnb
  go_enter Try.func87, Try.ntmps87
  go_wp2_with (simp only [hov])
  go_region_law (refine step_copyI rfl _ _ 93 93 rfl _ _ (by simp [Act.eval, Act.put]) (by simp [Act.eval, Act.put]) hcp ?_)
  go_wp2_with (at_builtin; go_loud (refine wpList_copyI rfl _ _ 93 93 rfl _ _ rfl rfl hcp2 ?_))
  go_ret
  exact ⟨rfl, HR.out, HFR.out⟩
end Go.Proofs.Ytcpgonioobgpoaa
