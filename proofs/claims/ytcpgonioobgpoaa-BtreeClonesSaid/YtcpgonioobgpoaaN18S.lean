/- Clone of a tree. No condition. -/
import Derived.Test.YtcpgonioobgpoaaN17S
import Derived.Test.YtcpgonioobgpoaaN4S
namespace Go.Proofs.Ytcpgonioobgpoaa
open Go.RowKit
def TreeCloneS (w : World) (xs : List ItS) (e : Ending) (w' : World) : Prop :=
  ∃ g' O', e = .returned (.pointer (some ⟨g', 0, none⟩)) ∧ TreeS w' g' O' xs ∧ (∀ b, O' b → w.heap.size ≤ b) ∧ Fr NoBlk w w'
set_option maxRecDepth 100000 in
set_option maxHeartbeats 1000000 in
theorem treeCloneS_any (w : World) (g : Nat) (O : Nat → Prop) (xs : List ItS) (h : TreeS w g O xs) :
    Calls Try.prog 23 #[.pointer (some ⟨g, 0, none⟩)] w (TreeCloneS w xs) := by
  obtain ⟨d, t, h1, ho, rfl, hu, hn, hd, hg, hO⟩ := h
  obtain ⟨n, hnn⟩ : ∃ n, n = t.flat.length := ⟨_, rfl⟩
  rw [← hnn] at h1
  obtain ⟨tg, htg⟩ : ∃ tg, tg = t.g := ⟨_, rfl⟩
  have h1' : Bk w g 69 #[.pointer (some ⟨tg, 0, none⟩), .int .i64 n] := by rw [htg]; exact h1
  have TC : Hid (∀ W, Fr NoBlk w W → W.cell? ⟨g, 0, none⟩ = some (.pointer (some ⟨tg, 0, none⟩)) ∧ W.cell? ⟨g, 1, none⟩ = some (.int .i64 n)) := fun W hW => ⟨(h1'.fr hW fun e => e).cell 0, (h1'.fr hW fun e => e).cell 1⟩
  have HTO : Hid (Calls Try.prog 44 #[.pointer (some ⟨tg, 0, none⟩)] w.drew (CloneP w.drew t)) := by rw [htg]; exact nodeCloneS_any w.drew t (ho.fr (Fr.refl NoBlk w).drew fun _ _ e => e) hn
  have HN := Lib.hid hnn
  have HU := Lib.hid (And.intro hu (And.intro hn hd))
  have HL := Lib.hid h1'.lt
  clear h1 h1' ho hu hn hd hg hO hnn htg
  go_enter Try.func23, Try.ntmps23
  go_wp2_with fail
  refine wp_region_held_drew (S := fun w' => w'.cell? ⟨g, 0, none⟩ = some (.pointer (some ⟨tg, 0, none⟩)) ∧ w'.cell? ⟨g, 1, none⟩ = some (.int .i64 n)) (by kernel_rfl) (TC.out _ (Fr.refl _ _).drew) (fun hHeld => ?_)
  refine wpAnyH_take (i := 0) (oi := ⟨some 3, _, _, _, _, _⟩) (v := ?_) rfl (by kernel_rfl) (by kernel_rfl) (by kernel_rfl) (fun _ _ _ h => h) (Or.inl ⟨by rfl, ?_⟩) (by assumption) ?_
  rotate_left 1
  · (intro w hSw; (try dsimp only at hSw); obtain ⟨hS1, hS2⟩ := hSw; go_simp) <;> (with_reducible rfl)
  try simp only [Act.put, List.setIfInBounds_toArray, List.set_cons_zero, List.set_cons_succ]
  refine wpAnyH_take (i := 1) (oi := ⟨some 4, _, _, _, _, _⟩) (v := ?_) rfl (by kernel_rfl) (by kernel_rfl) (by kernel_rfl) (fun _ _ _ h => h) (Or.inl ⟨by rfl, ?_⟩) (by assumption) ?_
  rotate_left 1
  · (intro w hSw; (try dsimp only at hSw); obtain ⟨hS1, hS2⟩ := hSw; go_simp) <;> (with_reducible rfl)
  try simp only [Act.put, List.setIfInBounds_toArray, List.set_cons_zero, List.set_cons_succ]
  refine wpAnyH_take (i := 2) (oi := ⟨some 5, _, _, _, _, _⟩) (v := ?_) rfl (by kernel_rfl) (by kernel_rfl) (by kernel_rfl) (fun _ _ _ h => h) (Or.inl ⟨by rfl, ?_⟩) (by assumption) ?_
  rotate_left 1
  · (intro w hSw; (try dsimp only at hSw); obtain ⟨hS1, hS2⟩ := hSw; go_simp) <;> (with_reducible rfl)
  try simp only [Act.put, List.setIfInBounds_toArray, List.set_cons_zero, List.set_cons_succ]
  refine wpAnyH_take (i := 3) (oi := ⟨some 6, _, _, _, _, _⟩) (v := ?_) rfl (by kernel_rfl) (by kernel_rfl) (by kernel_rfl) (fun _ _ _ h => h) (Or.inl ⟨by rfl, ?_⟩) (by assumption) ?_
  rotate_left 1
  · (intro w hSw; (try dsimp only at hSw); obtain ⟨hS1, hS2⟩ := hSw; go_simp) <;> (with_reducible rfl)
  try simp only [Act.put, List.setIfInBounds_toArray, List.set_cons_zero, List.set_cons_succ]
  refine wpAnyH_take (i := 5) (oi := ⟨some 8, _, _, _, _, _⟩) (v := ?_) rfl (by kernel_rfl) (by kernel_rfl) (by kernel_rfl) (fun _ _ _ h => h) (Or.inl ⟨by rfl, ?_⟩) (by assumption) ?_
  rotate_left 1
  · (intro w hSw; (try dsimp only at hSw); obtain ⟨hS1, hS2⟩ := hSw; go_simp) <;> (with_reducible rfl)
  try simp only [Act.put, List.setIfInBounds_toArray, List.set_cons_zero, List.set_cons_succ]
  refine wpAnyH_take (i := 6) (oi := ⟨some 9, _, _, _, _, _⟩) (v := ?_) rfl (by kernel_rfl) (by kernel_rfl) (by kernel_rfl) (fun _ _ _ h => h) (Or.inl ⟨by rfl, ?_⟩) (by assumption) ?_
  rotate_left 1
  · (intro w hSw; (try dsimp only at hSw); obtain ⟨hS1, hS2⟩ := hSw; go_simp) <;> (with_reducible rfl)
  try simp only [Act.put, List.setIfInBounds_toArray, List.set_cons_zero, List.set_cons_succ]
  refine wpAnyH_take (i := 7) (oi := ⟨some 10, _, _, _, _, _⟩) (v := ?_) rfl (by kernel_rfl) (by kernel_rfl) (by kernel_rfl) (fun _ _ _ h => h) (Or.inl ⟨by rfl, ?_⟩) (by assumption) ?_
  rotate_left 1
  · (intro w hSw; (try dsimp only at hSw); obtain ⟨hS1, hS2⟩ := hSw; go_simp) <;> (with_reducible rfl)
  try simp only [Act.put, List.setIfInBounds_toArray, List.set_cons_zero, List.set_cons_succ]
  refine wpAnyH_take (i := 8) (oi := ⟨some 11, _, _, _, _, _⟩) (v := ?_) rfl (by kernel_rfl) (by kernel_rfl) (by kernel_rfl) (fun _ _ _ h => h) (Or.inl ⟨by rfl, ?_⟩) (by assumption) ?_
  rotate_left 1
  · (intro w hSw; (try dsimp only at hSw); obtain ⟨hS1, hS2⟩ := hSw; go_simp) <;> (with_reducible rfl)
  try simp only [Act.put, List.setIfInBounds_toArray, List.set_cons_zero, List.set_cons_succ]
  refine wpAnyH_ready (rs := [4]) (by kernel_rfl) (by simp) ?_
  refine AllReadyH.cons (o := ⟨some 7, _, _, _, _, _⟩) rfl (fun K hK => ?_) AllReadyH.nil
  go_simp
  go_at_call 44
  refine HTO.out.mono ?_
  rintro _ wc ⟨q, rfl, hq, hfl, hqn, hqo, hf⟩
  have HFC : Hid (Fr NoBlk w wc) := (Fr.refl NoBlk w).drew.trans hf
  have HQ := Lib.hid (And.intro hq (And.intro hfl (And.intro hqn hqo)))
  obtain ⟨qg, hqg⟩ : ∃ qg, qg = q.g := ⟨_, rfl⟩
  rw [← hqg]
  have HQG := Lib.hid hqg
  clear hq hfl hqn hqo hf hqg hHeld
  refine hK.out _ _ ?_ (fun hHeld => ?_)
  · exact TC.out _ HFC.out
  clear hK K
  try simp only [Act.put, List.setIfInBounds_toArray, List.set_cons_zero, List.set_cons_succ]
  refine wpAnyH_take (i := 9) (oi := ⟨some 12, _, _, _, _, _⟩) (v := ?_) rfl (by kernel_rfl) (by kernel_rfl) (by kernel_rfl) (fun _ _ _ h => h) (Or.inl ⟨by rfl, ?_⟩) (by assumption) ?_
  rotate_left 1
  · (intro w hSw; (try dsimp only at hSw); obtain ⟨hS1, hS2⟩ := hSw; go_simp) <;> (with_reducible rfl)
  try simp only [Act.put, List.setIfInBounds_toArray, List.set_cons_zero, List.set_cons_succ]
  refine wpAnyH_ready (rs := [10]) (by kernel_rfl) (by simp) ?_
  refine AllReadyH.cons (o := ⟨some 13, _, _, _, _, _⟩) rfl (fun K hK => ?_) AllReadyH.nil
  go_simp
  clear hHeld
  refine hK.out _ _ ?_ (fun hHeld => ?_)
  · exact TC.out _ (HFC.out.alloc _)
  clear hK K
  try simp only [Act.put, List.setIfInBounds_toArray, List.set_cons_zero, List.set_cons_succ]
  refine wpAnyH_take (i := 11) (oi := ⟨some 2, _, _, _, _, _⟩) (v := ?_) rfl (by kernel_rfl) (by kernel_rfl) (by kernel_rfl) (fun _ _ _ h => h) (Or.inl ⟨by rfl, ?_⟩) (by assumption) ?_
  rotate_left 1
  · (intro w hSw; (try dsimp only at hSw); obtain ⟨hS1, hS2⟩ := hSw; go_simp) <;> (with_reducible rfl)
  try simp only [Act.put, List.setIfInBounds_toArray, List.set_cons_zero, List.set_cons_succ]
  refine wpAnyH_done (by kernel_rfl) ?_ _
  go_wp2_with fail
  go_ret
  have hfa : Fr NoBlk wc (wc.alloc (.cells #[.pointer (some ⟨qg, 0, none⟩), .int .i64 n] 69)) := (Fr.refl _ _).alloc _
  refine ⟨wc.heap.size, fun b => b = wc.heap.size ∨ q.own b, rfl, ⟨d, q, ?_, HQ.out.1.fr hfa fun _ _ e => e, HQ.out.2.1, HU.out.1, by rw [HQ.out.2.2.1]; exact HU.out.2.1, by rw [HQ.out.2.2.1]; exact HU.out.2.2, fun e => by have := HQ.out.1.lt e; omega, fun b => Iff.rfl⟩, fun b hb => ?_, HFC.out.trans hfa⟩
  · have hb := Bk.new wc 69 #[.pointer (some ⟨qg, 0, none⟩), .int .i64 n]
    rw [HQG.out, HN.out] at hb
    rw [HQG.out, HN.out]
    exact hb
  · rcases hb with rfl | hb
    · exact HFC.out.size
    · exact HQ.out.2.2.2 b hb
end Go.Proofs.Ytcpgonioobgpoaa
