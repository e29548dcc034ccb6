/- slices.Insert of one element in its place, where there is no room; and in any case. Conditions: at most 1000 elements. -/
import Derived.Test.YtkdcacajacndmaaB9
import Derived.Lib.AppendZerosOnto
namespace Go.Proofs.Ytkdcacajacndmaa
open Go.RowKit
set_option maxRecDepth 100000 in
set_option maxHeartbeats 2000000 in
theorem insGrowIR_any (w : World) (base g n c i : Nat) (xs : List Value) (h : RowW w base 124 5 (.slice (some ⟨g, 0, none⟩) n c) n xs) (hB : base ≤ w.heap.size) (hin : i < n) (hroom : c < n + 1) (hn : n ≤ 1000) (nb : Nat) (nw : List Value) (hw : nw.length = 1 * 5) (h1 : ∀ u ∈ nw, u.oneCell' = true) (hr : Rd w (some ⟨nb, 0, none⟩) nw) :
    Calls Try.prog 86 #[.slice (some ⟨g, 0, none⟩) n c, .int .i64 i, .slice (some ⟨nb, 0, none⟩) 1 1] w (InsPost w base 124 5 (.slice (some ⟨g, 0, none⟩) n c) n (xs.take (i * 5) ++ nw ++ xs.drop (i * 5))) := by
  obtain ⟨i0, hi, hz0, hz1, hz2⟩ := info_parts infoIR
  rcases h.2.2 with ⟨hv, _⟩ | ⟨g', cap, cur, hv, hbg, hg, hnc, hcm, hcs, htake⟩
  · cases hv
  injection hv with hv1 hv2 hv3
  injection hv1 with hv1
  injection hv1 with hv1
  subst hv1 hv3
  have hlen : xs.length = n * 5 := h.1
  have hkk : (n : Int) + 1 - (i : Int) = ((n + 1 - i : Nat) : Int) := by omega
  have hik : i + (n + 1 - i) = n + 1 := by omega
  have hcell : ∀ (w' : World), RowW w' base 124 5 (.slice (some ⟨g, 0, none⟩) n c) n xs → ∀ j v, xs[j]? = some v → w'.cell? ⟨g, j, none⟩ = some v := fun w' h j v hj => by
    obtain ⟨b', o', e', hc'⟩ := h.rd (by have := (List.getElem?_eq_some_iff.1 hj).1; omega)
    injection e' with e'
    injection e' with e1 e2
    subst e1 e2
    have := hc' _ _ hj
    rw [Nat.zero_add] at this
    exact this
  have hold : (Builtin.firstCells i0.size i (.slice (some ⟨g, 0, none⟩) i c)).run Try.prog w.drew = .ok (xs.take (i * 5)).toArray w.drew := by
    rw [hz1]
    exact run_firstCells_some w.drew 5 i ⟨g, 0, none⟩ i c (xs.take (i * 5)) (by rw [List.length_take, hlen]; omega) (fun j v hj => by
      rw [Addr.add_lit, Nat.zero_add]
      rw [List.getElem?_take] at hj
      split at hj
      · exact hcell w h j v hj
      · cases hj)
  obtain ⟨G, hG⟩ : ∃ G, G = grownCap w (n + 1) c 124 := ⟨_, rfl⟩
  have hrz : (Builtin.append_ #[99, 3] 99 #[.slice (some ⟨g, 0, none⟩) i c, .int .i64 ((n : Int) + 1 - (i : Int))]).run Try.prog w =
      .ok (.slice (some ⟨w.heap.size, 0, none⟩) (n + 1) G) ((w.alloc (.cells ((xs.take (i * 5)).toArray ++ Builtin.zeroCells (Value.cells (Value.agg #[(Value.string { data := #[] }), .bool false, .slice none 0 0, .int .i64 0, .int .u64 0])) (n + 1 - i) ++ Builtin.zeroCells (Value.cells (Value.agg #[(Value.string { data := #[] }), .bool false, .slice none 0 0, .int .i64 0, .int .u64 0])) (G - (n + 1))) 124)).drew) := by
    have hh := Lib.run_append_grow_zeros w 99 3 99 124 i0 _ .i64 .i64 Try.underlying99 Try.underlying3 hi hz0 (some ⟨g, 0, none⟩) i c (xs.take (i * 5)) hold (n + 1 - i) (by omega) (by omega) (by omega) (by omega) (by rw [hz2]; omega) (by rw [hz2, hik]; exact growslice_fits (by omega) (by omega))
    rw [hik, ← hG] at hh
    rw [hkk]
    exact hh
  obtain ⟨ROW, hROW⟩ : ∃ ROW : Array Value, ROW = (xs.take (i * 5)).toArray ++ Builtin.zeroCells (Value.cells (Value.agg #[(Value.string { data := #[] }), .bool false, .slice none 0 0, .int .i64 0, .int .u64 0])) (n + 1 - i) ++ Builtin.zeroCells (Value.cells (Value.agg #[(Value.string { data := #[] }), .bool false, .slice none 0 0, .int .i64 0, .int .u64 0])) (G - (n + 1)) := ⟨_, rfl⟩
  have hGn : n + 1 ≤ G := by rw [hG]; exact grownCap_ge w _ _ _
  have hG63 : G ≤ maxLen := by rw [hG]; exact grownCap_le_maxLen w (n + 1) c _ (by unfold maxLen; omega)
  have hzs : (Value.cells (Value.agg #[(Value.string { data := #[] }), .bool false, .slice none 0 0, .int .i64 0, .int .u64 0])).size = 5 := rfl
  have htl : (xs.take (i * 5)).length = i * 5 := by rw [List.length_take, hlen]; omega
  have hRl : ROW.size = G * 5 := by
    rw [hROW]
    simp only [Array.size_append, List.size_toArray, size_zeroCells, hzs, htl]
    omega
  have hRt : ROW.toList.take (i * 5) = xs.take (i * 5) := by
    rw [hROW]
    simp only [Array.toList_append, List.append_assoc]
    exact List.take_left' (by rw [htl]; try omega)
  rw [← hROW] at hrz
  obtain ⟨W1, hW1⟩ : ∃ W1, W1 = (w.alloc (.cells ROW 124)).drew := ⟨_, rfl⟩
  obtain ⟨q, hq⟩ : ∃ q, q = w.heap.size := ⟨_, rfl⟩
  rw [← hW1, ← hq] at hrz
  have hf1 : Fr NoBlk w W1 := by rw [hW1]; exact ((Fr.refl _ _).alloc _).drew
  have hq1 : Bk W1 q 124 ROW := by rw [hW1, hq]; exact Bk.fr (Bk.new w _ _) (Fr.refl NoBlk _).drew fun h => h
  have hgq : g ≠ q := by have := hg.lt; omega
  have hnq : nb ≠ q := by
    have := hr.lt (by rw [hw]; omega) (k := nb) ⟨_, rfl, rfl⟩
    omega
  obtain ⟨w2, hcp, hB2, hf2⟩ := run_copyW (P := Try.prog) W1 99 99 3 124 5 q (i * 5) (n + 1 - i) (G - i) ⟨nb, 0, none⟩ 1 1 ROW 124 nw Try.underlying99 sizeIR hq1
    (by rw [hw]; congr 1; show 1 = min 1 (n + 1 - i); omega)
    (fun j v hj => by
      obtain ⟨b', o', e', hc'⟩ := (hr.nofr hf1) (by rw [hw]; omega)
      injection e' with e'
      injection e' with e1 e2
      subst e1 e2
      rw [Addr.add_lit]
      exact hc' _ _ hj)
    (by rw [hw, hRl]; omega) h1
  have hos2 : (over ROW (i * 5) nw).size = G * 5 := by rw [over_size _ _ _ (by rw [hw, hRl]; omega), hRl]
  have hf12 : Fr NoBlk w w2.drew := (hf1.step hf2 fun i hi e => by omega).drew
  have hdl : (xs.drop (i * 5)).length = (n - i) * 5 := by rw [List.length_drop, hlen]; omega
  obtain ⟨w3, hcp2, hB3, hf3⟩ := run_copyW (P := Try.prog) w2.drew 99 99 3 124 5 q ((i + 1) * 5) (n - i) (G - (i + 1)) ⟨g, i * 5, none⟩ (n - i) (c - i) _ 124 (xs.drop (i * 5)) Try.underlying99 sizeIR (hB2.fr (Fr.refl NoBlk _).drew fun h => h)
    (by rw [hdl]; congr 1; show n - i = min (n - i) (n - i); omega)
    (fun j v hj => by
      rw [List.getElem?_drop] at hj
      rw [Addr.add_lit]
      exact hcell _ (h.fr hf12 fun _ _ h => h) _ v hj)
    (by rw [hdl, hos2]; omega) (fun u hu => h.2.1 u (List.mem_of_mem_drop hu))
  rw [show (n - i).min (n - i) = n - i from Nat.min_self _] at hcp2
  have hos3 : (over (over ROW (i * 5) nw) ((i + 1) * 5) (xs.drop (i * 5))).size = G * 5 := by rw [over_size _ _ _ (by rw [hdl, hos2]; omega), hos2]
  have hnl : (xs.take (i * 5) ++ nw ++ xs.drop (i * 5)).length = (n + 1) * 5 := by rw [List.length_append, List.length_append, htl, hdl, hw]; omega
  have HR : Hid (RowW w3 base 124 5 (.slice (some ⟨q, 0, none⟩) (n + 1) G) (n + 1) (xs.take (i * 5) ++ nw ++ xs.drop (i * 5))) := by
    refine ⟨hnl, fun u hu => ?_, .inr ⟨q, G, _, rfl, by omega, hB3, hGn, hG63, by rw [hos3]; exact Nat.le_refl _, ?_⟩⟩
    · rcases List.mem_append.1 hu with h' | h'
      · rcases List.mem_append.1 h' with h' | h'
        · exact h.2.1 u (List.mem_of_mem_take h')
        · exact h1 u h'
      · exact h.2.1 u (List.mem_of_mem_drop h')
    · have e0 : (over (over ROW (i * 5) nw) ((i + 1) * 5) (xs.drop (i * 5))).toList = (ROW.toList.take (i * 5) ++ nw ++ ROW.toList.drop (i * 5 + nw.length)).take ((i + 1) * 5) ++ xs.drop (i * 5) ++ (ROW.toList.take (i * 5) ++ nw ++ ROW.toList.drop (i * 5 + nw.length)).drop ((i + 1) * 5 + (xs.drop (i * 5)).length) := rfl
      have e1 : (ROW.toList.take (i * 5) ++ nw ++ ROW.toList.drop (i * 5 + nw.length)).take ((i + 1) * 5) = xs.take (i * 5) ++ nw := by
        rw [hRt]
        exact List.take_left' (by rw [List.length_append, htl, hw]; omega)
      rw [e0, e1]
      exact List.take_left' hnl
  have HFR : Hid (Fr (fun k => (Value.slice (some ⟨g, 0, none⟩) n c).ownBlock = some k) w w3) := (hf12.mono fun _ _ h => h.elim).step hf3 (fun k hk e => by omega)
  have HQ : Hid ((Value.slice (some ⟨q, 0, none⟩) (n + 1) G).ownBlock = some w.heap.size) := by rw [hq]; rfl
  have hwi : IntKind.i64.wrap ((i : Int) + 1) = (i : Int) + 1 := IntWalk.i64_in _ (by omega)
  have hwn : IntKind.i64.wrap ((n : Int) + 1) = (n : Int) + 1 := IntWalk.i64_in _ (by omega)
  have hwni : IntKind.i64.wrap ((n : Int) + 1 - (i : Int)) = (n : Int) + 1 - (i : Int) := IntWalk.i64_in _ (by omega)
  have hni : ¬ ((i : Int) = (n : Int)) := by omega
  have hci : ¬ (c = i) := by omega
  have hGi : ¬ (G = i) := by omega
  have hGi1 : ¬ (G = i + 1) := by omega
  have hrc : ¬ (n : Int) + 1 ≤ (c : Int) := by omega
  have hrc2 : (c : Int) < (n : Int) + 1 := by omega
  have htn : ((i : Int) + 1).toNat = i + 1 := by omega
  have hb1 : (0 : Int) ≤ (i : Int) + 1 := by omega
  have hb3 : (i : Int) ≤ (n : Int) + 1 := by omega
  have hb4 : (i : Int) + 1 ≤ (n : Int) + 1 := by omega
  have hb5 : i ≤ n := by omega
  have hb6 : i ≤ c := by omega
  have hb7 : i ≤ n + 1 := by omega
  have hb8 : i + 1 ≤ n + 1 := by omega
  have hsub : n + 1 - (i + 1) = n - i := by omega
  clear h hg hcs htake hlen hold hcell hkk hik hROW hRl hRt hG hz0 hz1 hz2 hi hW1 hf1 hq1 hgq hnq hB2 hf2 hos2 hf12 hdl hB3 hf3 hos3 hnl hcm hr hw h1 htl hGn hG63 hq hB
  go_enter Try.func86, Try.ntmps86
  go_wp2_with (first
    | (at_builtin; go_loud (refine Lib.wpList_append_run _ rfl _ _ _ _ rfl _ _ rfl rfl _ _ hrz ?_))
    | (at_builtin; go_loud (refine wpList_copyI rfl _ _ 99 99 rfl _ _ rfl rfl hcp ?_)))
  go_region_law (refine step_copyI rfl _ _ 99 99 rfl _ _ (by simp [Act.eval, Act.put]) (by simp [Act.eval, Act.put]) hcp2 ?_)
  go_wp2_with fail
  go_ret
  exact ⟨some ⟨q, 0, none⟩, G, rfl, HR.out, HFR.out, .inr HQ.out⟩
theorem insIR_any (w : World) (base : Nat) (A : Option Addr) (n c i : Nat) (xs : List Value) (h : RowW w base 124 5 (.slice A n c) n xs) (hB : base ≤ w.heap.size) (hin : i ≤ n) (hn : n ≤ 1000) (nb : Nat) (nwa : Array Value) (hnb : Bk w nb 124 nwa) (hs : nwa.size = 5) (h1 : ∀ u ∈ nwa.toList, u.oneCell' = true) (hne : ¬ ablk A nb) :
    Calls Try.prog 86 #[.slice A n c, .int .i64 i, .slice (some ⟨nb, 0, none⟩) 1 1] w (InsPost w base 124 5 (.slice A n c) n (xs.take (i * 5) ++ nwa.toList ++ xs.drop (i * 5))) := by
  have hl : nwa.toList.length = 1 * 5 := by rw [Array.length_toList, hs]; try omega
  rcases Nat.eq_or_lt_of_le hin with rfl | hlt
  · have hx := h.1
    rw [List.take_of_length_le (by rw [hx]; try omega), List.drop_of_length_le (by rw [hx]; try omega), List.append_nil]
    exact insEndIR_any w base A i c xs h hB hn nb nwa.toList hl h1 (Rd.of_cells hnb)
  · have h2 := h.2.2
    rcases h2 with ⟨hv, h0⟩ | ⟨g, cap, cur, hv, _, _, hnc, _⟩
    · omega
    injection hv with hv1 hv2 hv3
    subst hv1 hv3
    by_cases hroom : n + 1 ≤ c
    · refine (insInIR_any w base g n c i xs h hlt hroom hn nb nwa hnb hs h1 (fun e => hne ⟨_, rfl, e.symm⟩)).mono ?_
      rintro e w1 ⟨rfl, h3, h4⟩
      exact ⟨some ⟨g, 0, none⟩, c, rfl, h3, h4.mono fun k _ e => by rw [e]; rfl, .inl rfl⟩
    · exact insGrowIR_any w base g n c i xs h hB hlt (by omega) hn nb nwa.toList hl h1 (Rd.of_cells hnb)
set_option maxRecDepth 100000 in
set_option maxHeartbeats 2000000 in
theorem insGrowPR_any (w : World) (base g n c i : Nat) (xs : List Value) (h : RowW w base 98 1 (.slice (some ⟨g, 0, none⟩) n c) n xs) (hB : base ≤ w.heap.size) (hin : i < n) (hroom : c < n + 1) (hn : n ≤ 1000) (nb : Nat) (nw : List Value) (hw : nw.length = 1 * 1) (h1 : ∀ u ∈ nw, u.oneCell' = true) (hr : Rd w (some ⟨nb, 0, none⟩) nw) :
    Calls Try.prog 89 #[.slice (some ⟨g, 0, none⟩) n c, .int .i64 i, .slice (some ⟨nb, 0, none⟩) 1 1] w (InsPost w base 98 1 (.slice (some ⟨g, 0, none⟩) n c) n (xs.take (i) ++ nw ++ xs.drop (i))) := by
  obtain ⟨i0, hi, hz0, hz1, hz2⟩ := info_parts infoPR
  rcases h.2.2 with ⟨hv, _⟩ | ⟨g', cap, cur, hv, hbg, hg, hnc, hcm, hcs, htake⟩
  · cases hv
  injection hv with hv1 hv2 hv3
  injection hv1 with hv1
  injection hv1 with hv1
  subst hv1 hv3
  have hlen : xs.length = n * 1 := h.1
  have hkk : (n : Int) + 1 - (i : Int) = ((n + 1 - i : Nat) : Int) := by omega
  have hik : i + (n + 1 - i) = n + 1 := by omega
  have hcell : ∀ (w' : World), RowW w' base 98 1 (.slice (some ⟨g, 0, none⟩) n c) n xs → ∀ j v, xs[j]? = some v → w'.cell? ⟨g, j, none⟩ = some v := fun w' h j v hj => by
    obtain ⟨b', o', e', hc'⟩ := h.rd (by have := (List.getElem?_eq_some_iff.1 hj).1; omega)
    injection e' with e'
    injection e' with e1 e2
    subst e1 e2
    have := hc' _ _ hj
    rw [Nat.zero_add] at this
    exact this
  have hold : (Builtin.firstCells i0.size i (.slice (some ⟨g, 0, none⟩) i c)).run Try.prog w.drew = .ok (xs.take (i)).toArray w.drew := by
    rw [hz1]
    exact run_firstCells_some w.drew 1 i ⟨g, 0, none⟩ i c (xs.take (i)) (by rw [List.length_take, hlen]; omega) (fun j v hj => by
      rw [Addr.add_lit, Nat.zero_add]
      rw [List.getElem?_take] at hj
      split at hj
      · exact hcell w h j v hj
      · cases hj)
  obtain ⟨G, hG⟩ : ∃ G, G = grownCap w (n + 1) c 98 := ⟨_, rfl⟩
  have hrz : (Builtin.append_ #[100, 3] 100 #[.slice (some ⟨g, 0, none⟩) i c, .int .i64 ((n : Int) + 1 - (i : Int))]).run Try.prog w =
      .ok (.slice (some ⟨w.heap.size, 0, none⟩) (n + 1) G) ((w.alloc (.cells ((xs.take (i)).toArray ++ Builtin.zeroCells (Value.cells (Value.pointer none)) (n + 1 - i) ++ Builtin.zeroCells (Value.cells (Value.pointer none)) (G - (n + 1))) 98)).drew) := by
    have hh := Lib.run_append_grow_zeros w 100 3 100 98 i0 _ .i64 .i64 Try.underlying100 Try.underlying3 hi hz0 (some ⟨g, 0, none⟩) i c (xs.take (i)) hold (n + 1 - i) (by omega) (by omega) (by omega) (by omega) (by rw [hz2]; omega) (by rw [hz2, hik]; exact growslice_fits (by omega) (by omega))
    rw [hik, ← hG] at hh
    rw [hkk]
    exact hh
  obtain ⟨ROW, hROW⟩ : ∃ ROW : Array Value, ROW = (xs.take (i)).toArray ++ Builtin.zeroCells (Value.cells (Value.pointer none)) (n + 1 - i) ++ Builtin.zeroCells (Value.cells (Value.pointer none)) (G - (n + 1)) := ⟨_, rfl⟩
  have hGn : n + 1 ≤ G := by rw [hG]; exact grownCap_ge w _ _ _
  have hG63 : G ≤ maxLen := by rw [hG]; exact grownCap_le_maxLen w (n + 1) c _ (by unfold maxLen; omega)
  have hzs : (Value.cells (Value.pointer none)).size = 1 := rfl
  have htl : (xs.take (i)).length = i * 1 := by rw [List.length_take, hlen]; omega
  have hRl : ROW.size = G * 1 := by
    rw [hROW]
    simp only [Array.size_append, List.size_toArray, size_zeroCells, hzs, htl]
    omega
  have hRt : ROW.toList.take (i) = xs.take (i) := by
    rw [hROW]
    simp only [Array.toList_append, List.append_assoc]
    exact List.take_left' (by rw [htl]; try omega)
  rw [← hROW] at hrz
  obtain ⟨W1, hW1⟩ : ∃ W1, W1 = (w.alloc (.cells ROW 98)).drew := ⟨_, rfl⟩
  obtain ⟨q, hq⟩ : ∃ q, q = w.heap.size := ⟨_, rfl⟩
  rw [← hW1, ← hq] at hrz
  have hf1 : Fr NoBlk w W1 := by rw [hW1]; exact ((Fr.refl _ _).alloc _).drew
  have hq1 : Bk W1 q 98 ROW := by rw [hW1, hq]; exact Bk.fr (Bk.new w _ _) (Fr.refl NoBlk _).drew fun h => h
  have hgq : g ≠ q := by have := hg.lt; omega
  have hnq : nb ≠ q := by
    have := hr.lt (by rw [hw]; omega) (k := nb) ⟨_, rfl, rfl⟩
    omega
  obtain ⟨w2, hcp, hB2, hf2⟩ := run_copyW (P := Try.prog) W1 100 100 3 98 1 q (i) (n + 1 - i) (G - i) ⟨nb, 0, none⟩ 1 1 ROW 98 nw Try.underlying100 sizePR hq1
    (by rw [hw]; congr 1; show 1 = min 1 (n + 1 - i); omega)
    (fun j v hj => by
      obtain ⟨b', o', e', hc'⟩ := (hr.nofr hf1) (by rw [hw]; omega)
      injection e' with e'
      injection e' with e1 e2
      subst e1 e2
      rw [Addr.add_lit]
      exact hc' _ _ hj)
    (by rw [hw, hRl]; omega) h1
  have hos2 : (over ROW (i) nw).size = G * 1 := by rw [over_size _ _ _ (by rw [hw, hRl]; omega), hRl]
  have hf12 : Fr NoBlk w w2.drew := (hf1.step hf2 fun i hi e => by omega).drew
  have hdl : (xs.drop (i)).length = (n - i) * 1 := by rw [List.length_drop, hlen]; omega
  obtain ⟨w3, hcp2, hB3, hf3⟩ := run_copyW (P := Try.prog) w2.drew 100 100 3 98 1 q (i + 1) (n - i) (G - (i + 1)) ⟨g, i, none⟩ (n - i) (c - i) _ 98 (xs.drop (i)) Try.underlying100 sizePR (hB2.fr (Fr.refl NoBlk _).drew fun h => h)
    (by rw [hdl]; congr 1; show n - i = min (n - i) (n - i); omega)
    (fun j v hj => by
      rw [List.getElem?_drop] at hj
      rw [Addr.add_lit]
      exact hcell _ (h.fr hf12 fun _ _ h => h) _ v hj)
    (by rw [hdl, hos2]; omega) (fun u hu => h.2.1 u (List.mem_of_mem_drop hu))
  rw [show (n - i).min (n - i) = n - i from Nat.min_self _] at hcp2
  have hos3 : (over (over ROW (i) nw) (i + 1) (xs.drop (i))).size = G * 1 := by rw [over_size _ _ _ (by rw [hdl, hos2]; omega), hos2]
  have hnl : (xs.take (i) ++ nw ++ xs.drop (i)).length = (n + 1) * 1 := by rw [List.length_append, List.length_append, htl, hdl, hw]; omega
  have HR : Hid (RowW w3 base 98 1 (.slice (some ⟨q, 0, none⟩) (n + 1) G) (n + 1) (xs.take (i) ++ nw ++ xs.drop (i))) := by
    refine ⟨hnl, fun u hu => ?_, .inr ⟨q, G, _, rfl, by omega, hB3, hGn, hG63, by rw [hos3]; exact Nat.le_refl _, ?_⟩⟩
    · rcases List.mem_append.1 hu with h' | h'
      · rcases List.mem_append.1 h' with h' | h'
        · exact h.2.1 u (List.mem_of_mem_take h')
        · exact h1 u h'
      · exact h.2.1 u (List.mem_of_mem_drop h')
    · have e0 : (over (over ROW (i) nw) (i + 1) (xs.drop (i))).toList = (ROW.toList.take (i) ++ nw ++ ROW.toList.drop (i + nw.length)).take (i + 1) ++ xs.drop (i) ++ (ROW.toList.take (i) ++ nw ++ ROW.toList.drop (i + nw.length)).drop (i + 1 + (xs.drop (i)).length) := rfl
      have e1 : (ROW.toList.take (i) ++ nw ++ ROW.toList.drop (i + nw.length)).take (i + 1) = xs.take (i) ++ nw := by
        rw [hRt]
        exact List.take_left' (by rw [List.length_append, htl, hw]; omega)
      rw [e0, e1]
      exact List.take_left' hnl
  have HFR : Hid (Fr (fun k => (Value.slice (some ⟨g, 0, none⟩) n c).ownBlock = some k) w w3) := (hf12.mono fun _ _ h => h.elim).step hf3 (fun k hk e => by omega)
  have HQ : Hid ((Value.slice (some ⟨q, 0, none⟩) (n + 1) G).ownBlock = some w.heap.size) := by rw [hq]; rfl
  have hwi : IntKind.i64.wrap ((i : Int) + 1) = (i : Int) + 1 := IntWalk.i64_in _ (by omega)
  have hwn : IntKind.i64.wrap ((n : Int) + 1) = (n : Int) + 1 := IntWalk.i64_in _ (by omega)
  have hwni : IntKind.i64.wrap ((n : Int) + 1 - (i : Int)) = (n : Int) + 1 - (i : Int) := IntWalk.i64_in _ (by omega)
  have hni : ¬ ((i : Int) = (n : Int)) := by omega
  have hci : ¬ (c = i) := by omega
  have hGi : ¬ (G = i) := by omega
  have hGi1 : ¬ (G = i + 1) := by omega
  have hrc : ¬ (n : Int) + 1 ≤ (c : Int) := by omega
  have hrc2 : (c : Int) < (n : Int) + 1 := by omega
  have htn : ((i : Int) + 1).toNat = i + 1 := by omega
  have hb1 : (0 : Int) ≤ (i : Int) + 1 := by omega
  have hb3 : (i : Int) ≤ (n : Int) + 1 := by omega
  have hb4 : (i : Int) + 1 ≤ (n : Int) + 1 := by omega
  have hb5 : i ≤ n := by omega
  have hb6 : i ≤ c := by omega
  have hb7 : i ≤ n + 1 := by omega
  have hb8 : i + 1 ≤ n + 1 := by omega
  have hsub : n + 1 - (i + 1) = n - i := by omega
  clear h hg hcs htake hlen hold hcell hkk hik hROW hRl hRt hG hz0 hz1 hz2 hi hW1 hf1 hq1 hgq hnq hB2 hf2 hos2 hf12 hdl hB3 hf3 hos3 hnl hcm hr hw h1 htl hGn hG63 hq hB
  go_enter Try.func89, Try.ntmps89
  go_wp2_with (first
    | (at_builtin; go_loud (refine Lib.wpList_append_run _ rfl _ _ _ _ rfl _ _ rfl rfl _ _ hrz ?_))
    | (at_builtin; go_loud (refine wpList_copyI rfl _ _ 100 100 rfl _ _ rfl rfl hcp ?_)))
  go_region_law (refine step_copyI rfl _ _ 100 100 rfl _ _ (by simp [Act.eval, Act.put]) (by simp [Act.eval, Act.put]) hcp2 ?_)
  go_wp2_with fail
  go_ret
  exact ⟨some ⟨q, 0, none⟩, G, rfl, HR.out, HFR.out, .inr HQ.out⟩
theorem insPR_any (w : World) (base : Nat) (A : Option Addr) (n c i : Nat) (xs : List Value) (h : RowW w base 98 1 (.slice A n c) n xs) (hB : base ≤ w.heap.size) (hin : i ≤ n) (hn : n ≤ 1000) (nb : Nat) (nwa : Array Value) (hnb : Bk w nb 98 nwa) (hs : nwa.size = 1) (h1 : ∀ u ∈ nwa.toList, u.oneCell' = true) (hne : ¬ ablk A nb) :
    Calls Try.prog 89 #[.slice A n c, .int .i64 i, .slice (some ⟨nb, 0, none⟩) 1 1] w (InsPost w base 98 1 (.slice A n c) n (xs.take (i) ++ nwa.toList ++ xs.drop (i))) := by
  have hl : nwa.toList.length = 1 * 1 := by rw [Array.length_toList, hs]; try omega
  rcases Nat.eq_or_lt_of_le hin with rfl | hlt
  · have hx := h.1
    rw [List.take_of_length_le (by rw [hx]; try omega), List.drop_of_length_le (by rw [hx]; try omega), List.append_nil]
    exact insEndPR_any w base A i c xs h hB hn nb nwa.toList hl h1 (Rd.of_cells hnb)
  · have h2 := h.2.2
    rcases h2 with ⟨hv, h0⟩ | ⟨g, cap, cur, hv, _, _, hnc, _⟩
    · omega
    injection hv with hv1 hv2 hv3
    subst hv1 hv3
    by_cases hroom : n + 1 ≤ c
    · refine (insInPR_any w base g n c i xs h hlt hroom hn nb nwa hnb hs h1 (fun e => hne ⟨_, rfl, e.symm⟩)).mono ?_
      rintro e w1 ⟨rfl, h3, h4⟩
      exact ⟨some ⟨g, 0, none⟩, c, rfl, h3, h4.mono fun k _ e => by rw [e]; rfl, .inl rfl⟩
    · exact insGrowPR_any w base g n c i xs h hB hlt (by omega) hn nb nwa.toList hl h1 (Rd.of_cells hnb)
end Go.Proofs.Ytkdcacajacndmaa
