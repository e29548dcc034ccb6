/- A filter in memory: Has, first, Restore of nothing, Region, Global, Last. Conditions: few tags. -/
import Derived.Test.YtdgjjkmgdjiliaaTagK
import Derived.Deep.RegionHeld3
namespace Go.Proofs.Ytdgjjkmgdjiliaa
open Go.RowKit Go.Maps

def setT (m : Tg → Bool) : Tg → Option Value := fun t => if m t then some (.agg #[]) else none
theorem setT_some (m : Tg → Bool) (t : Tg) : (setT m t).isSome = m t := by unfold setT; cases m t <;> rfl
theorem setT_get (m : Tg → Bool) (t : Tg) : (setT m t).getD (.agg #[]) = .agg #[] := by unfold setT; cases m t <;> rfl
theorem setT_put (m : Tg → Bool) (t : Tg) : updG (setT m) t (some (.agg #[])) = setT fun y => decide (y = t) || m y := by
  funext y
  unfold updG setT
  by_cases e : y = t
  · simp [e]
  · simp [e]
abbrev TM (w : World) (b s : Nat) (m : Tg → Bool) : Prop := Kg Try.prog 31 tgl TgOk w b s (setT m)
theorem zeroUn (w : World) : (zeroValue 73).run Try.prog w = .ok (.agg #[]) w := by kernel_rfl
/-- block g is a filter: its region, the last piece, the tags that have counted. -/
structure Fl (w : World) (B g bm s : Nat) (rg la : Int) (m : Tg → Bool) : Prop where
  bk : Bk w g 77 #[.int .i64 rg, .int .i64 la, .map (some bm)]
  mp : TM w bm s m
  b1 : B ≤ g
  b2 : B ≤ bm
def flO (g bm : Nat) (b : Nat) : Prop := b = g ∨ b = bm
section
variable {w w' : World} {B g bm s : Nat} {rg la : Int} {m : Tg → Bool} {C : Nat → Prop}
theorem Fl.fr (h : Fl w B g bm s rg la m) (hf : Fr C w w') (h1 : ¬ C g) (h2 : ¬ C bm) : Fl w' B g bm s rg la m := ⟨h.bk.fr hf h1, h.mp.fr hf h2, h.b1, h.b2⟩
theorem Fl.nofr (h : Fl w B g bm s rg la m) (hf : Fr NoBlk w w') : Fl w' B g bm s rg la m := h.fr hf (fun e => e) (fun e => e)
theorem Fl.ne (h : Fl w B g bm s rg la m) : g ≠ bm := h.mp.ne h.bk
theorem TM.look {b : Nat} (h : TM w b s m) {t : Tg} (ht : TgOk t) : (Instr.lookup 75 (.map (some b)) (tgv t) true).run Try.prog w = .ok (.tuple #[.agg #[], .bool (m t)]) w := by
  have := Kg.look h tagKeyT Try.underlying75 (zeroUn w) ht
  rw [setT_some, setT_get] at this
  exact this
end

set_option maxRecDepth 100000 in
set_option maxHeartbeats 1000000 in
theorem fhas_any (w : World) (B g bm s : Nat) (rg la : Int) (m : Tg → Bool) (h : Fl w B g bm s rg la m) (t : Tg) (ht : TgOk t) :
    Calls Try.prog 16 #[.pointer (some ⟨g, 0, none⟩), tgv t] w fun e w' => e = .returned (.bool (m t)) ∧ Fr NoBlk w w' := by
  obtain ⟨q, hq⟩ : ∃ q, q = w.heap.size := ⟨_, rfl⟩
  obtain ⟨w1, hw1⟩ : ∃ w1, w1 = w.alloc (.cells #[.int .i64 t.node, .int .u64 (t.epoch : Int), .int .u64 (t.seq : Int), .int .i64 t.tr] 31) := ⟨_, rfl⟩
  have HF1 : Hid (Fr NoBlk w w1) := by show Fr _ _ _; rw [hw1]; exact (Fr.refl _ _).alloc _
  have HB1 : Hid (Bk w1 q 31 #[.int .i64 t.node, .int .u64 (t.epoch : Int), .int .u64 (t.seq : Int), .int .i64 t.tr]) := by show Bk _ _ _ _; rw [hw1, hq]; exact Bk.new _ _ _
  have H1 := Lib.hid (h.nofr HF1.out)
  have HSD : Hid (∀ W, Fr NoBlk w1 W → W.cell? ⟨g, 2, none⟩ = some (.map (some bm)) ∧ (W.cell? ⟨q, 0, none⟩ = some (.int .i64 t.node) ∧ W.cell? ⟨q, 1, none⟩ = some (.int .u64 (t.epoch : Int)) ∧ W.cell? ⟨q, 2, none⟩ = some (.int .u64 (t.seq : Int)) ∧ W.cell? ⟨q, 3, none⟩ = some (.int .i64 t.tr)) ∧ (Instr.lookup 75 (.map (some bm)) (.agg #[.int .i64 t.node, .int .u64 (t.epoch : Int), .int .u64 (t.seq : Int), .int .i64 t.tr]) true).run Try.prog W = .ok (.tuple #[.agg #[], .bool (m t)]) W) := fun W hW =>
    ⟨(H1.out.nofr hW).bk.cell 2, ⟨(HB1.out.fr hW fun e => e).cell 0, (HB1.out.fr hW fun e => e).cell 1, (HB1.out.fr hW fun e => e).cell 2, (HB1.out.fr hW fun e => e).cell 3⟩, (H1.out.nofr hW).mp.look ht⟩
  have HW1 := Lib.hid hw1
  have HQ := Lib.hid hq
  clear h ht hw1 hq
  generalize m t = b at *
  unfold tgv
  go_enter Try.func16, Try.ntmps16
  go_wp2_with fail
  rw [← HW1.out, ← HQ.out]
  clear HW1 HQ
  refine wp_region_held_drew (S := fun w' => w'.cell? ⟨g, 2, none⟩ = some (.map (some bm)) ∧ (w'.cell? ⟨q, 0, none⟩ = some (.int .i64 t.node) ∧ w'.cell? ⟨q, 1, none⟩ = some (.int .u64 (t.epoch : Int)) ∧ w'.cell? ⟨q, 2, none⟩ = some (.int .u64 (t.seq : Int)) ∧ w'.cell? ⟨q, 3, none⟩ = some (.int .i64 t.tr)) ∧ (Instr.lookup 75 (.map (some bm)) (.agg #[.int .i64 t.node, .int .u64 (t.epoch : Int), .int .u64 (t.seq : Int), .int .i64 t.tr]) true).run Try.prog w' = .ok (.tuple #[.agg #[], .bool b]) w') (by kernel_rfl) (HSD.out _ (Fr.refl _ _).drew) (fun hHeld => ?_)
  refine wpAnyH_take (i := 0) (oi := ⟨some 8, _, _, _, _, _⟩) (v := ?_) rfl (by kernel_rfl) (by kernel_rfl) (by kernel_rfl) (fun _ _ _ h => h) (Or.inl ⟨by rfl, ?_⟩) (by assumption) ?_
  rotate_left 1
  · (intro w hSw; (try dsimp only at hSw); obtain ⟨hS1, ⟨hS2, hS3, hS4, hS5⟩, hS6⟩ := hSw; go_simp) <;> (with_reducible rfl)
  try simp only [Act.put, List.setIfInBounds_toArray, List.set_cons_zero, List.set_cons_succ]
  refine wpAnyH_take (i := 1) (oi := ⟨some 9, _, _, _, _, _⟩) (v := ?_) rfl (by kernel_rfl) (by kernel_rfl) (by kernel_rfl) (fun _ _ _ h => h) (Or.inl ⟨by rfl, ?_⟩) (by assumption) ?_
  rotate_left 1
  · (intro w hSw; (try dsimp only at hSw); obtain ⟨hS1, ⟨hS2, hS3, hS4, hS5⟩, hS6⟩ := hSw; go_simp) <;> (with_reducible rfl)
  try simp only [Act.put, List.setIfInBounds_toArray, List.set_cons_zero, List.set_cons_succ]
  refine wpAnyH_take (i := 2) (oi := ⟨some 10, _, _, _, _, _⟩) (v := ?_) rfl (by kernel_rfl) (by kernel_rfl) (by kernel_rfl) (fun _ _ _ h => h) (Or.inl ⟨by rfl, ?_⟩) (by assumption) ?_
  rotate_left 1
  · (intro w hSw; (try dsimp only at hSw); obtain ⟨hS1, ⟨hS2, hS3, hS4, hS5⟩, hS6⟩ := hSw; go_simp) <;> (with_reducible rfl)
  try simp only [Act.put, List.setIfInBounds_toArray, List.set_cons_zero, List.set_cons_succ]
  refine wpAnyH_take (i := 3) (oi := ⟨some 11, _, _, _, _, _⟩) (v := ?_) rfl (by kernel_rfl) (by kernel_rfl) (by kernel_rfl) (fun _ _ _ h => h) (Or.inl ⟨by rfl, ?_⟩) (by assumption) ?_
  rotate_left 1
  · (intro w hSw; (try dsimp only at hSw); obtain ⟨hS1, ⟨hS2, hS3, hS4, hS5⟩, hS6⟩ := hSw; go_simp) <;> (with_reducible rfl)
  try simp only [Act.put, List.setIfInBounds_toArray, List.set_cons_zero, List.set_cons_succ]
  refine wpAnyH_take (i := 4) (oi := ⟨some 12, _, _, _, _, _⟩) (v := ?_) rfl (by kernel_rfl) (by kernel_rfl) (by kernel_rfl) (fun _ _ _ h => h) (Or.inl ⟨by rfl, ?_⟩) (by assumption) ?_
  rotate_left 1
  · (intro w hSw; (try dsimp only at hSw); obtain ⟨hS1, ⟨hS2, hS3, hS4, hS5⟩, hS6⟩ := hSw; go_simp) <;> (with_reducible rfl)
  try simp only [Act.put, List.setIfInBounds_toArray, List.set_cons_zero, List.set_cons_succ]
  refine wpAnyH_take (i := 5) (oi := ⟨some 13, _, _, _, _, _⟩) (v := ?_) rfl (by kernel_rfl) (by kernel_rfl) (by kernel_rfl) (fun _ _ _ h => h) (Or.inl ⟨by rfl, ?_⟩) (by assumption) ?_
  rotate_left 1
  · (intro w hSw; (try dsimp only at hSw); obtain ⟨hS1, ⟨hS2, hS3, hS4, hS5⟩, hS6⟩ := hSw; go_simp) <;> (with_reducible rfl)
  try simp only [Act.put, List.setIfInBounds_toArray, List.set_cons_zero, List.set_cons_succ]
  refine wpAnyH_take (i := 6) (oi := ⟨some 7, _, _, _, _, _⟩) (v := ?_) rfl (by kernel_rfl) (by kernel_rfl) (by kernel_rfl) (fun _ _ _ h => h) (Or.inl ⟨by rfl, ?_⟩) (by assumption) ?_
  rotate_left 1
  · (intro w hSw; (try dsimp only at hSw); obtain ⟨hS1, ⟨hS2, hS3, hS4, hS5⟩, hS6⟩ := hSw; go_simp) <;> (with_reducible rfl)
  try simp only [Act.put, List.setIfInBounds_toArray, List.set_cons_zero, List.set_cons_succ]
  refine wpAnyH_take (i := 7) (oi := ⟨some 14, _, _, _, _, _⟩) (v := ?_) rfl (by kernel_rfl) (by kernel_rfl) (by kernel_rfl) (fun _ _ _ h => h) (Or.inl ⟨by rfl, ?_⟩) (by assumption) ?_
  rotate_left 1
  · (intro w hSw; (try dsimp only at hSw); obtain ⟨hS1, ⟨hS2, hS3, hS4, hS5⟩, hS6⟩ := hSw; go_simp) <;> (with_reducible rfl)
  try simp only [Act.put, List.setIfInBounds_toArray, List.set_cons_zero, List.set_cons_succ]
  refine wpAnyH_take (i := 8) (oi := ⟨some 15, _, _, _, _, _⟩) (v := ?_) rfl (by kernel_rfl) (by kernel_rfl) (by kernel_rfl) (fun _ _ _ h => h) (Or.inl ⟨by rfl, ?_⟩) (by assumption) ?_
  rotate_left 1
  · (intro w hSw; (try dsimp only at hSw); obtain ⟨hS1, ⟨hS2, hS3, hS4, hS5⟩, hS6⟩ := hSw; go_simp) <;> (with_reducible rfl)
  try simp only [Act.put, List.setIfInBounds_toArray, List.set_cons_zero, List.set_cons_succ]
  refine wpAnyH_ready (rs := [9]) (by kernel_rfl) (by simp) ?_
  refine AllReadyH.cons (o := ⟨some 5, _, _, _, _, _⟩) rfl (fun K hK => ?_) AllReadyH.nil
  go_simp
  clear hHeld
  refine hK.out _ _ ?_ (fun hHeld => ?_)
  · exact HSD.out _ ((Fr.refl _ _).drew.alloc _)
  clear hK K
  try simp only [Act.put, List.setIfInBounds_toArray, List.set_cons_zero, List.set_cons_succ]
  refine wpAnyH_ready (rs := [10]) (by kernel_rfl) (by simp) ?_
  refine AllReadyH.cons (o := ⟨none, _, _, _, _, _⟩) rfl (fun K hK => ?_) AllReadyH.nil
  go_simp
  clear hHeld
  refine hK.out _ _ ?_ (fun hHeld => ?_)
  · exact HSD.out _ ((Fr.refl _ _).drew.alloc _)
  clear hK K
  try simp only [Act.put, List.setIfInBounds_toArray, List.set_cons_zero, List.set_cons_succ]
  refine wpAnyH_take (i := 11) (oi := ⟨some 6, _, _, _, _, _⟩) (v := ?_) rfl (by kernel_rfl) (by kernel_rfl) (by kernel_rfl) (fun _ _ _ h => h) (Or.inl ⟨by rfl, ?_⟩) (by assumption) ?_
  rotate_left 1
  · (intro w hSw; (try dsimp only at hSw); obtain ⟨hS1, ⟨hS2, hS3, hS4, hS5⟩, hS6⟩ := hSw; go_simp) <;> (with_reducible rfl)
  try simp only [Act.put, List.setIfInBounds_toArray, List.set_cons_zero, List.set_cons_succ]
  refine wpAnyH_done (by kernel_rfl) ?_ _
  go_wp2_with fail
  go_ret
  exact ⟨rfl, HF1.out.trans ((Fr.refl _ _).drew.alloc _)⟩
end Go.Proofs.Ytdgjjkmgdjiliaa
