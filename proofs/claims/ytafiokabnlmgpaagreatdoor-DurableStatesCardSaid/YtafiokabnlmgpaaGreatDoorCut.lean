/- The disk's Cut. Condition: lengths. -/
import Derived.Test.YtafiokabnlmgpaaGreatDoorCrashed
import Derived.Test.YtafiokabnlmgpaaGreatDoorRemove
import Derived.IntWalk
import Derived.Deep.RegionHeld3
namespace Go.Proofs.YtafiokabnlmgpaaGreatDoor
open Go.RowKit Go.Maps

def rightCut (n : Int) (f : PF) : Bool := decide (0 ≤ n) && decide (n ≤ f.data.length)
set_option maxRecDepth 100000 in
theorem cut1_any (w : World) (B : Nat) (f : Fil) (hf : FilIn w B f) (n : Int) (bn : Nat) (hbn : w.cell? ⟨bn, 0, none⟩ = some (.int .i64 n)) :
    Calls Tryz.prog 158 #[.pointer (some ⟨f.blk, 0, none⟩), .pointer (some ⟨bn, 0, none⟩)] w fun e w' => e = .returned (.bool (rightCut n f.pf)) ∧ Fr NoBlk w w' := by
  have d0 : w.cell? ⟨f.blk, 0, none⟩ = some (.slice f.A f.data.length f.cap) := hf.bk.cell 0
  obtain ⟨m, hm⟩ : ∃ m, m = f.data.length := ⟨_, rfl⟩
  have HR : Hid (rightCut n f.pf = (decide (0 ≤ n) && decide (n ≤ (m : Int)))) := by show _ = _; rw [hm]; rfl
  rw [← hm] at d0
  clear hf hm
  rw [HR.out]
  by_cases h0 : 0 ≤ n
  · have h1 : decide (0 ≤ n) = true := decide_eq_true h0
    rw [h1]
    go_enter Tryz.func158, Tryz.ntmps158
    go_wp2_with fail
    go_quiet (fail)
    go_wp2_with fail
    go_ret
    exact ⟨by simp, (Fr.refl _ _).drewN _⟩
  · have h1 : decide (0 ≤ n) = false := decide_eq_false h0
    rw [h1]
    go_enter Tryz.func158, Tryz.ntmps158
    go_wp2_with fail
    go_quiet (fail)
    go_wp2_with fail
    go_ret
    exact ⟨by simp, (Fr.refl _ _).drewN _⟩

/-- a file's bytes and what lasts of them have turned. -/
def CutOf (n : Nat) (g : PF) : PF := { g with data := g.data.take n, last := min g.last n }
theorem DkIn.cut {w w' : World} {B gd : Nat} {m : Dsk} (h : DkIn w B gd m) {f : Fil} (hf : f ∈ m.files) {n : Nat} (hn : n ≤ f.data.length) {A : Option Addr} {c : Nat} (hB : B ≤ w.heap.size)
    (hb : Bk w' f.blk 168 #[.slice A n c, .int .i64 ((min f.lasts n : Nat) : Int)]) (ho : w'.ownsRow w.heap.size 5 1 (.slice A n c) n (cb (f.data.take n))) (hr : Fr (fun j => j = f.blk) w w') :
    ActPost w B gd m (fun L => pset L f.name (CutOf n)) (.returned (.tuple #[])) w' := by
  have hfi := h.fil f hf
  have hl : (f.data.take n).length = n := by rw [List.length_take]; omega
  have hx : FilIn w' B ⟨f.name, f.blk, A, c, f.data.take n, min f.lasts n⟩ := by
    refine ⟨?_, ?_, hfi.base, ?_, hfi.nm⟩
    · show Bk _ _ _ #[.slice A (f.data.take n).length c, .int .i64 ((min f.lasts n : Nat) : Int)]
      rw [hl]; exact hb
    · show World.ownsRow _ _ _ _ (.slice A (f.data.take n).length c) (f.data.take n).length _
      rw [hl]; exact own_base ho hB
    · show min f.lasts n ≤ (f.data.take n).length
      rw [hl]; omega
  have hblk : (Fil.sl ⟨f.name, f.blk, A, c, f.data.take n, min f.lasts n⟩).ownBlock = none ∨ ∃ k, (Fil.sl ⟨f.name, f.blk, A, c, f.data.take n, min f.lasts n⟩).ownBlock = some k ∧ w.heap.size ≤ k := by
    unfold Fil.sl
    dsimp only
    rw [hl]
    cases hc : (Value.slice A n c).ownBlock with
    | none => exact .inl rfl
    | some k => exact .inr ⟨k, rfl, (own_lt ho hc).1⟩
  have hd := h.turn hf (x := ⟨f.name, f.blk, A, c, f.data.take n, min f.lasts n⟩) rfl rfl (hr.mono fun j _ e => .inl e) hx (.inr hblk) (by
    have := h.fits
    show total m.files + (f.data.take n).length ≤ _
    rw [hl]; omega)
  refine ⟨_, rfl, ?_, hd, hr.mono fun j _ e => .inr (.inr ⟨f, hf, .inl e⟩), fun j hj => ?_⟩
  · unfold Dsk.pd
    dsimp only
    rw [pset_map h.nodup hf (CutOf n) rfl]
  · rcases hj with e | e | ⟨g, hg, hj⟩
    · exact .inl (.inl e)
    · exact .inl (.inr (.inl e))
    · rcases mem_set hg with rfl | ⟨hg, _⟩
      · rcases hj with hj | hj
        · exact .inl (.inr (.inr ⟨f, hf, .inl hj⟩))
        · rcases hblk with e | ⟨k, e, hk⟩
          · rw [e] at hj; cases hj
          · rw [e] at hj
            injection hj with hj
            exact .inr (by omega)
      · exact .inl (.inr (.inr ⟨g, hg, hj⟩))

set_option maxRecDepth 100000 in
set_option maxHeartbeats 2000000 in
theorem cut2_any (w : World) (B gd : Nat) (m : Dsk) (h : DkIn w B gd m) (hB : B ≤ w.heap.size) (f : Fil) (hf : f ∈ m.files) (n : Nat) (hn : n ≤ f.data.length) (bn : Nat) (hbn : Bk w bn 3 #[.int .i64 n]) :
    Calls Tryz.prog 159 #[.pointer (some ⟨f.blk, 0, none⟩), .pointer (some ⟨bn, 0, none⟩)] w (ActPost w B gd m fun L => pset L f.name (CutOf n)) := by
  have hfi := h.fil f hf
  have d0 : w.cell? ⟨f.blk, 0, none⟩ = some (.slice f.A f.data.length f.cap) := hfi.bk.cell 0
  have d1 : w.cell? ⟨f.blk, 1, none⟩ = some (.int .i64 f.lasts) := hfi.bk.cell 1
  have hbl := hfi.bk.lt
  have hbnl := hbn.lt
  have n0 : w.cell? ⟨bn, 0, none⟩ = some (.int .i64 n) := hbn.cell 0
  have hne : bn ≠ f.blk := hbn.apart hfi.bk (by decide)
  have HB := Lib.hid hfi.bk
  have hft := total_mem hf
  have hfs := h.fits
  have hms := h.most
  have hll := hfi.lasts
  obtain ⟨A', c', e', hc', hA'⟩ := own_form hfi.own
  unfold Fil.sl at e'
  injection e' with e1 e2 e3
  subst e1 e3
  have HRN : Hid (Rd w f.A (cb (f.data.take n))) := by show Rd _ _ _; rw [cb_take]; exact (Rd.of_own hfi.own).take n
  have HNL : Hid ((f.data.take n).length = n) := by show _ = _; rw [List.length_take]; omega
  have HK := Lib.hid fun W (hf : Fr NoBlk w W) => clone_any W f.A n f.cap (f.data.take n) HNL.out.symm (HRN.out.nofr hf) hA' (by rw [HNL.out]; omega)
  have HX := Lib.hid fun W' A c hb ho hr => h.cut hf hn (w' := W') (A := A) (c := c) hB hb ho hr
  have hn0 : (0 : Int) ≤ (n : Int) := by omega
  have hnc : (n : Int) ≤ (f.cap : Int) := by omega
  have hnl : (n : Int) ≤ (f.data.length : Int) := by omega
  have g0 := hfi.bk.free 0
  have g1 := hfi.bk.free 1
  obtain ⟨mn, hmn⟩ : ∃ mn, mn = min f.lasts n := ⟨_, rfl⟩
  have HMN := Lib.hid hmn
  rw [← hmn] at HX
  clear h hf hfi hbn hft hfs hms e2 hc' hA' hmn
  go_enter Tryz.func159, Tryz.ntmps159
  go_wp2_with fail
  refine wp_region_held_drew (S := fun w' => w'.cell? ⟨bn, 0, none⟩ = some (.int .i64 (n : Int))) (by kernel_rfl) (by exact n0) (fun hHeld => ?_)
  refine wpAnyH_take (i := 0) (oi := ⟨some 3, _, _, _, _, _⟩) (v := ?_) rfl (by kernel_rfl) (by kernel_rfl) (by kernel_rfl) (fun _ _ _ h => h) (Or.inl ⟨by rfl, ?_⟩) (by assumption) ?_
  rotate_left 1
  · (intro w hSw; (try dsimp only at hSw); go_simp) <;> (with_reducible rfl)
  try simp only [Act.put, List.setIfInBounds_toArray, List.set_cons_zero, List.set_cons_succ]
  refine wpAnyH_take (i := 1) (oi := ⟨some 4, _, _, _, _, _⟩) (v := ?_) rfl (by kernel_rfl) (by kernel_rfl) (by kernel_rfl) (fun _ _ _ h => h) (Or.inl ⟨by rfl, ?_⟩) (by assumption) ?_
  rotate_left 1
  · (intro w hSw; (try dsimp only at hSw); go_simp) <;> (with_reducible rfl)
  try simp only [Act.put, List.setIfInBounds_toArray, List.set_cons_zero, List.set_cons_succ]
  refine wpAnyH_take (i := 2) (oi := ⟨some 5, _, _, _, _, _⟩) (v := ?_) rfl (by kernel_rfl) (by kernel_rfl) (by kernel_rfl) (fun _ _ _ h => h) (Or.inl ⟨by rfl, ?_⟩) (by assumption) ?_
  rotate_left 1
  · (intro w hSw; (try dsimp only at hSw); go_simp) <;> (with_reducible rfl)
  try simp only [Act.put, List.setIfInBounds_toArray, List.set_cons_zero, List.set_cons_succ]
  refine wpAnyH_take (i := 3) (oi := ⟨some 6, _, _, _, _, _⟩) (v := ?_) rfl (by kernel_rfl) (by kernel_rfl) (by kernel_rfl) (fun _ _ _ h => h) (Or.inl ⟨by rfl, ?_⟩) (by assumption) ?_
  rotate_left 1
  · (intro w hSw; (try dsimp only at hSw); go_simp) <;> (with_reducible rfl)
  try simp only [Act.put, List.setIfInBounds_toArray, List.set_cons_zero, List.set_cons_succ]
  refine wpAnyH_take (i := 5) (oi := ⟨some 8, _, _, _, _, _⟩) (v := ?_) rfl (by kernel_rfl) (by kernel_rfl) (by kernel_rfl) (fun _ _ _ h => h) (Or.inl ⟨by rfl, ?_⟩) (by assumption) ?_
  rotate_left 1
  · (intro w hSw; (try dsimp only at hSw); go_simp) <;> (with_reducible rfl)
  try simp only [Act.put, List.setIfInBounds_toArray, List.set_cons_zero, List.set_cons_succ]
  refine wpAnyH_ready (rs := [4]) (by kernel_rfl) (by simp) ?_
  refine AllReadyH.cons (o := ⟨some 7, _, _, _, _, _⟩) rfl (fun K hK => ?_) AllReadyH.nil
  go_simp
  
  refine hK.out _ _ ?_ (fun hHeld => ?_)
  · first | exact n0 | exact n3 | exact (World.cell?_setCell_far _ _ _ _ (fun e => hne e.symm)).trans n3
  clear hK K
  try simp only [Act.put, List.setIfInBounds_toArray, List.set_cons_zero, List.set_cons_succ]
  refine wpAnyH_take (i := 6) (oi := ⟨some 9, _, _, _, _, _⟩) (v := ?_) rfl (by kernel_rfl) (by kernel_rfl) (by kernel_rfl) (fun _ _ _ h => h) (Or.inl ⟨by rfl, ?_⟩) (by assumption) ?_
  rotate_left 1
  · (intro w hSw; (try dsimp only at hSw); go_simp) <;> (with_reducible rfl)
  try simp only [Act.put, List.setIfInBounds_toArray, List.set_cons_zero, List.set_cons_succ]
  refine wpAnyH_ready (rs := [7]) (by kernel_rfl) (by simp) ?_
  refine AllReadyH.cons (o := ⟨some 10, _, _, _, _, _⟩) rfl (fun K hK => ?_) AllReadyH.nil
  go_simp
  go_at_call 81
  refine (HK.out _ (Fr.refl _ _).drew).mono ?_
  rintro e w3 ⟨v3, rfl, hn3⟩
  obtain ⟨A3, c3, rfl, hc3, hA3⟩ := own_form hn3.own
  have HF3 : Hid (Fr NoBlk w w3) := ((Fr.refl NoBlk w).drew).trans hn3.fr
  have HO3 : Hid (w3.ownsRow w.heap.size 5 1 (.slice A3 (f.data.take n).length c3) (f.data.take n).length (cb (f.data.take n))) := hn3.own
  rw [HNL.out] at HO3 ⊢
  have HB3 := Lib.hid (HB.out.fr HF3.out (fun h => h))
  have d03 : w3.cell? ⟨f.blk, 0, none⟩ = some (.slice f.A f.data.length f.cap) := HB3.out.cell 0
  have d13 : w3.cell? ⟨f.blk, 1, none⟩ = some (.int .i64 f.lasts) := HB3.out.cell 1
  have g03 := HB3.out.free 0
  have g13 := HB3.out.free 1
  have n3 : w3.cell? ⟨bn, 0, none⟩ = some (.int .i64 n) := (HF3.out.cell (p := ⟨bn, 0, none⟩) hbnl (fun h => h)).trans n0
  clear hn3 hc3 hA3 d0 d1 g0 g1
  go_wp2_with fail
  refine hK.out _ _ ?_ (fun hHeld => ?_)
  · first | exact n0 | exact n3 | exact (World.cell?_setCell_far _ _ _ _ (fun e => hne e.symm)).trans n3
  clear hK K
  try simp only [Act.put, List.setIfInBounds_toArray, List.set_cons_zero, List.set_cons_succ]
  refine wpAnyH_take (i := 8) (oi := ⟨some 11, _, _, _, _, _⟩) (v := ?_) rfl (by kernel_rfl) (by kernel_rfl) (by kernel_rfl) (fun _ _ _ h => h) (Or.inl ⟨by rfl, ?_⟩) (by assumption) ?_
  rotate_left 1
  · (intro w hSw; (try dsimp only at hSw); go_simp) <;> (with_reducible rfl)
  try simp only [Act.put, List.setIfInBounds_toArray, List.set_cons_zero, List.set_cons_succ]
  refine wpAnyH_take (i := 9) (oi := ⟨some 12, _, _, _, _, _⟩) (v := ?_) rfl (by kernel_rfl) (by kernel_rfl) (by kernel_rfl) (fun _ _ _ h => h) (Or.inl ⟨by rfl, ?_⟩) (by assumption) ?_
  rotate_left 1
  · (intro w hSw; (try dsimp only at hSw); go_simp) <;> (with_reducible rfl)
  try simp only [Act.put, List.setIfInBounds_toArray, List.set_cons_zero, List.set_cons_succ]
  refine wpAnyH_ready (rs := [10]) (by kernel_rfl) (by simp) ?_
  refine AllReadyH.cons (o := ⟨none, _, _, _, _, _⟩) rfl (fun K hK => ?_) AllReadyH.nil
  go_simp
  
  refine hK.out _ _ ?_ (fun hHeld => ?_)
  · first | exact n0 | exact n3 | exact (World.cell?_setCell_far _ _ _ _ (fun e => hne e.symm)).trans n3
  clear hK K
  try simp only [Act.put, List.setIfInBounds_toArray, List.set_cons_zero, List.set_cons_succ]
  refine wpAnyH_done (by kernel_rfl) ?_ _
  have HB4 : Hid (Bk (w3.setCell ⟨f.blk, 0, none⟩ (.slice A3 n c3)) f.blk 168 #[.slice A3 n c3, .int .i64 f.lasts]) := HB3.out.put 0 (.slice A3 n c3)
  have HF4 : Hid (Fr (fun j => j = f.blk) w (w3.setCell ⟨f.blk, 0, none⟩ (.slice A3 n c3))) := (HF3.out.mono (D := fun j => j = f.blk) fun _ _ h => h.elim).setCell (p := ⟨f.blk, 0, none⟩) (fun _ => rfl) _
  have HO4 : Hid ((w3.setCell ⟨f.blk, 0, none⟩ (.slice A3 n c3)).ownsRow w.heap.size 5 1 (.slice A3 n c3) n (cb (f.data.take n))) := own_fr HO3.out ((Fr.refl (fun j => j = f.blk) w3).setCell (p := ⟨f.blk, 0, none⟩) (fun _ => rfl) _) fun j hj e => by have := (own_lt HO3.out hj).1; omega
  have n4 : (w3.setCell ⟨f.blk, 0, none⟩ (.slice A3 n c3)).cell? ⟨bn, 0, none⟩ = some (.int .i64 n) := (World.cell?_setCell_far _ _ _ _ (fun e => hne e.symm)).trans n3
  have d14 : (w3.setCell ⟨f.blk, 0, none⟩ (.slice A3 n c3)).cell? ⟨f.blk, 1, none⟩ = some (.int .i64 f.lasts) := HB4.out.cell 1
  have g14 := HB4.out.free 1
  clear HO3 HB3 HF3 d03 d13 g03 g13 n3 n0 HK HRN hHeld
  generalize w3.setCell ⟨f.blk, 0, none⟩ (.slice A3 n c3) = w4 at *
  go_wp2_with fail
  refine wp_region_held_drew (S := fun w' => w'.cell? ⟨bn, 0, none⟩ = some (.int .i64 (n : Int))) (by kernel_rfl) (by exact n4) (fun hHeld => ?_)
  refine wpAnyH_take (i := 0) (oi := ⟨some 13, _, _, _, _, _⟩) (v := ?_) rfl (by kernel_rfl) (by kernel_rfl) (by kernel_rfl) (fun _ _ _ h => h) (Or.inl ⟨by rfl, ?_⟩) (by assumption) ?_
  rotate_left 1
  · (intro w hSw; (try dsimp only at hSw); go_simp) <;> (with_reducible rfl)
  try simp only [Act.put, List.setIfInBounds_toArray, List.set_cons_zero, List.set_cons_succ]
  refine wpAnyH_take (i := 1) (oi := ⟨some 14, _, _, _, _, _⟩) (v := ?_) rfl (by kernel_rfl) (by kernel_rfl) (by kernel_rfl) (fun _ _ _ h => h) (Or.inl ⟨by rfl, ?_⟩) (by assumption) ?_
  rotate_left 1
  · (intro w hSw; (try dsimp only at hSw); go_simp) <;> (with_reducible rfl)
  try simp only [Act.put, List.setIfInBounds_toArray, List.set_cons_zero, List.set_cons_succ]
  refine wpAnyH_take (i := 2) (oi := ⟨some 15, _, _, _, _, _⟩) (v := ?_) rfl (by kernel_rfl) (by kernel_rfl) (by kernel_rfl) (fun _ _ _ h => h) (Or.inl ⟨by rfl, ?_⟩) (by assumption) ?_
  rotate_left 1
  · (intro w hSw; (try dsimp only at hSw); go_simp) <;> (with_reducible rfl)
  try simp only [Act.put, List.setIfInBounds_toArray, List.set_cons_zero, List.set_cons_succ]
  refine wpAnyH_take (i := 3) (oi := ⟨some 16, _, _, _, _, _⟩) (v := ?_) rfl (by kernel_rfl) (by kernel_rfl) (by kernel_rfl) (fun _ _ _ h => h) (Or.inl ⟨by rfl, ?_⟩) (by assumption) ?_
  rotate_left 1
  · (intro w hSw; (try dsimp only at hSw); go_simp) <;> (with_reducible rfl)
  try simp only [Act.put, List.setIfInBounds_toArray, List.set_cons_zero, List.set_cons_succ]
  refine wpAnyH_take (i := 5) (oi := ⟨some 18, _, _, _, _, _⟩) (v := ?_) rfl (by kernel_rfl) (by kernel_rfl) (by kernel_rfl) (fun _ _ _ h => h) (Or.inl ⟨by rfl, ?_⟩) (by assumption) ?_
  rotate_left 1
  · (intro w hSw; (try dsimp only at hSw); go_simp) <;> (with_reducible rfl)
  try simp only [Act.put, List.setIfInBounds_toArray, List.set_cons_zero, List.set_cons_succ]
  refine wpAnyH_ready (rs := [4]) (by kernel_rfl) (by simp) ?_
  refine AllReadyH.cons (o := ⟨some 17, _, _, _, _, _⟩) rfl (fun K hK => ?_) AllReadyH.nil
  go_simp
  
  refine hK.out _ _ ?_ (fun hHeld => ?_)
  · first | exact n4 | exact (World.cell?_setCell_far _ _ _ _ (fun e => hne e.symm)).trans n4
  clear hK K
  try simp only [Act.put, List.setIfInBounds_toArray, List.set_cons_zero, List.set_cons_succ]
  refine wpAnyH_ready (rs := [6]) (by kernel_rfl) (by simp) ?_
  refine AllReadyH.cons (o := ⟨some 19, _, _, _, _, _⟩) rfl (fun K hK => ?_) AllReadyH.nil
  go_simp
  
  refine hK.out _ _ ?_ (fun hHeld => ?_)
  · first | exact n4 | exact (World.cell?_setCell_far _ _ _ _ (fun e => hne e.symm)).trans n4
  clear hK K
  try simp only [Act.put, List.setIfInBounds_toArray, List.set_cons_zero, List.set_cons_succ]
  refine wpAnyH_take (i := 7) (oi := ⟨some 20, _, _, _, _, _⟩) (v := ?_) rfl (by kernel_rfl) (by kernel_rfl) (by kernel_rfl) (fun _ _ _ h => h) (Or.inl ⟨by rfl, ?_⟩) (by assumption) ?_
  rotate_left 1
  · (intro w hSw; (try dsimp only at hSw); go_simp) <;> (with_reducible rfl)
  try simp only [Act.put, List.setIfInBounds_toArray, List.set_cons_zero, List.set_cons_succ]
  refine wpAnyH_take (i := 8) (oi := ⟨some 21, _, _, _, _, _⟩) (v := ?_) rfl (by kernel_rfl) (by kernel_rfl) (by kernel_rfl) (fun _ _ _ h => h) (Or.inl ⟨by rfl, ?_⟩) (by assumption) ?_
  rotate_left 1
  · (intro w hSw; (try dsimp only at hSw); go_simp) <;> (with_reducible rfl)
  try simp only [Act.put, List.setIfInBounds_toArray, List.set_cons_zero, List.set_cons_succ]
  refine wpAnyH_ready (rs := [9]) (by kernel_rfl) (by simp) ?_
  refine AllReadyH.cons (o := ⟨none, _, _, _, _, _⟩) rfl (fun K hK => ?_) AllReadyH.nil
  go_simp
  
  refine hK.out _ _ ?_ (fun hHeld => ?_)
  · first | exact n4 | exact (World.cell?_setCell_far _ _ _ _ (fun e => hne e.symm)).trans n4
  clear hK K
  try simp only [Act.put, List.setIfInBounds_toArray, List.set_cons_zero, List.set_cons_succ]
  refine wpAnyH_done (by kernel_rfl) ?_ _
  go_wp2_with fail
  have e : min (f.lasts : Int) (n : Int) = ((mn : Nat) : Int) := by rw [HMN.out]; omega
  rw [e]
  have HB5 : Hid (Bk ((w4.setCell ⟨f.blk, 1, none⟩ (.int .i64 ((mn : Nat) : Int))).drew) f.blk 168 #[.slice A3 n c3, .int .i64 ((mn : Nat) : Int)]) := HB4.out.put 1 (.int .i64 ((mn : Nat) : Int))
  have HF5 : Hid (Fr (fun j => j = f.blk) w4 ((w4.setCell ⟨f.blk, 1, none⟩ (.int .i64 ((mn : Nat) : Int))).drew)) := ((Fr.refl (fun j => j = f.blk) w4).setCell (p := ⟨f.blk, 1, none⟩) (fun _ => rfl) _).drew
  have HO5 := Lib.hid (own_fr HO4.out HF5.out fun j hj e => by have := (own_lt HO4.out hj).1; omega)
  have HZ := Lib.hid (HX.out _ A3 c3 HB5.out HO5.out (HF4.out.trans HF5.out))
  clear HX HB5 HO5 HF5 HB4 HF4 HO4
  go_end0
  exact HZ.out

theorem enters_cut1 : ∀ args w, (callFunc 158 args).run Tryz.prog w = .ok (.enter 158 args) w := enters_of Tryz.func158 (by kernel_rfl) rfl
theorem enters_cut2 : ∀ args w, (callFunc 159 args).run Tryz.prog w = .ok (.enter 159 args) w := enters_of Tryz.func159 (by kernel_rfl) rfl
theorem pset_congr {L : List PF} {k : Bs} {a b : PF → PF} (h : ∀ g, a g = b g) : pset L k a = pset L k b := by
  have : a = b := funext h
  rw [this]
set_option maxRecDepth 100000 in
theorem cut_any (w : World) (B gd : Nat) (m : Dsk) (h : DkIn w B gd m) (k : Bs) (hk : k.length ≤ maxLen) (n : Int) :
    Calls Tryz.prog 144 #[.pointer (some ⟨gd, 0, none⟩), .string (bstr k), .int .i64 n] w (DkPost w B gd m (pCut m.pd k n)) := by
  have hg := h.bk.lt
  have hbd := h.bd
  have HF : Hid (Fr NoBlk w (w.alloc (.cells #[.int .i64 n] 3))) := (Fr.refl _ _).alloc _
  have b1 := Bk.new w 3 #[.int .i64 n]
  have HC := Lib.hid (change_any _ B gd m (h.nofr HF.out) k hk 158 #[.pointer (some ⟨w.heap.size, 0, none⟩)] 159 #[.pointer (some ⟨w.heap.size, 0, none⟩)] (rightCut n) (fun _ L => pset L k fun g => { g with data := g.data.take n.toNat, last := min g.last n.toNat }) enters_cut1 enters_cut2
    (fun f hf _ => cut1_any _ B f ((h.fil f hf).fr HF.out (fun h => h) (fun _ _ h => h)) n w.heap.size (b1.cell 0))
    (fun f hf hn hr W hd hfr => by
      unfold rightCut at hr
      simp only [Bool.and_eq_true, decide_eq_true_eq] at hr
      have hl : f.pf.data.length = f.data.length := rfl
      rw [hl] at hr
      have hb : Bk W w.heap.size 3 #[.int .i64 ((n.toNat : Nat) : Int)] := by
        rw [Int.toNat_of_nonneg hr.1]
        exact b1.fr hfr (fun e => by omega)
      have := cut2_any W B gd (spent m) hd (by have := hfr.size; have := HF.out.size; omega) f (by rw [spent_files]; exact hf) n.toNat (by omega) w.heap.size hb
      rw [hn] at this
      exact this))
  clear h hk b1 hg
  go_enter Tryz.func144, Tryz.ntmps144
  go_wp2_with fail
  refine HC.out.mono ?_
  intro e w1 hp
  obtain ⟨m1, rfl, hp1⟩ := hp
  have HP : Hid (DkPost w B gd m (pCut m.pd k n) (.returned (.int .i64 (pCut m.pd k n).2)) w1) := DkPost.old ⟨m1, rfl, hp1⟩ HF.out
  have e2 : (pChange m.pd k (rightCut n) fun _ L => pset L k fun g => { g with data := g.data.take n.toNat, last := min g.last n.toNat }).2 = (pCut m.pd k n).2 := rfl
  rw [e2]
  generalize (pCut m.pd k n).2 = z at *
  clear hp1 e2
  go_wp2_with fail
  go_ret
  exact HP.out
end Go.Proofs.YtafiokabnlmgpaaGreatDoor
