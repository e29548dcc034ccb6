/- The log's Sync. No condition. -/
import Derived.Test.YthnaggmafbhdmaaDoorLOpen
namespace Go.Proofs.YthnaggmafbhdmaaDoor
open Go.RowKit Go.Maps

def lsync (p : PD) (L : PL) : PD × PL × Int := if L.waits = true then ((pSync p (lfile L.name L.last)).1, { L with waits := (pSync p (lfile L.name L.last)).2 != 0 }, (pSync p (lfile L.name L.last)).2) else (p, L, 0)
def LPost (w w0 : World) (gd gl : Nat) (r : PD × PL × Int) (S : Nat → Prop) (e : Ending) (w' : World) : Prop := e = .returned (.int .i64 r.2.2) ∧ WL w w' gd r.1 gl r.2.1 S ∧ Fr (Loose w S) w0 w'
set_option maxRecDepth 100000 in
set_option maxHeartbeats 4000000 in
theorem lsync_any (w w0 : World) (gd gl : Nat) (p : PD) (L : PL) (S : Nat → Prop) (h : WL w w0 gd p gl L S) :
    Calls Tryd.prog 10 #[.pointer (some ⟨gl, 0, none⟩)] w0 (LPost w w0 gd gl (lsync p L) S) := by
  have HW := Lib.hid h
  obtain ⟨g, hgp, hlg, hag, hsg, htg⟩ := h
  subst hgp
  have c5 : w0.cell? ⟨gl, 5, none⟩ = some (.bool g.waits) := hlg.bk.cell 5
  cases hwt : g.waits with
  | false =>
    have HZ : Hid (LPost w w0 gd gl (lsync p g.pl) S (.returned (.int .i64 0)) w0) := by
      have e : lsync p g.pl = (p, g.pl, 0) := if_neg (by show ¬ g.waits = true; rw [hwt]; decide)
      rw [e]
      exact ⟨rfl, HW.out, Fr.refl _ _⟩
    rw [hwt] at c5
    clear hwt HW hlg hag hsg htg
    go_enter Tryd.func10, Tryd.ntmps10
    go_wp2_with fail
    go_ret
    exact HZ.out
  | true =>
    have c0 : w0.cell? ⟨gl, 0, none⟩ = some (.pointer (some ⟨gd, 0, none⟩)) := hlg.bk.cell 0
    have c3 : w0.cell? ⟨gl, 3, none⟩ = some (.int .i64 g.last) := hlg.bk.cell 3
    have HB := Lib.hid hlg.bk
    have HFI := Lib.hid fun W (hb : Bk W gl 52 (g.cells gd)) => file_any W gd gl g hb hlg.nm g.last hlg.lst
    have hlf : (lfile g.name g.last).length ≤ maxLen := by rw [lfile_len]; have := hlg.nm; unfold maxLen; omega
    have hml := Mine.lt hlg htg
    have HSY := Lib.hid fun W (hf : Fr NoBlk w0 W) => syncS (hag.nofr hf) (fun j hj => Nat.lt_of_lt_of_le (hml j hj) hf.size) (lfile g.name g.last) hlf
    have HEQ : Hid (lsync p g.pl = ((pSync p (lfile g.name g.last)).1, { g.pl with waits := (pSync p (lfile g.name g.last)).2 != 0 }, (pSync p (lfile g.name g.last)).2)) := if_pos (by show g.waits = true; exact hwt)
    have HLG := Lib.hid hlg
    have HSG := Lib.hid hsg
    have HTG := Lib.hid htg
    rw [hwt] at c5
    clear hlg hag hsg htg hlf hml HW hwt
    generalize lsync p g.pl = rr at *
    generalize lfile g.name g.last = nk at *
    go_enter Tryd.func10, Tryd.ntmps10
    go_wp2_with fail
    refine wp_region_held_drew (S := fun w' => w'.cell? ⟨gl, 0, none⟩ = some (.pointer (some ⟨gd, 0, none⟩)) ∧ w'.cell? ⟨gl, 3, none⟩ = some (.int .i64 (g.last : Int))) (by kernel_rfl) (by exact ⟨c0, c3⟩) (fun hHeld => ?_)
    refine wpAnyH_take (i := 0) (oi := ⟨some 9, _, _, _, _, _⟩) (v := ?_) rfl (by kernel_rfl) (by kernel_rfl) (by kernel_rfl) (fun _ _ _ h => h) (Or.inl ⟨by rfl, ?_⟩) (by assumption) ?_
    rotate_left 1
    · (intro w hSw; (try dsimp only at hSw); go_simp) <;> (with_reducible rfl)
    try simp only [Act.put, List.setIfInBounds_toArray, List.set_cons_zero, List.set_cons_succ]
    refine wpAnyH_take (i := 1) (oi := ⟨some 10, _, _, _, _, _⟩) (v := ?_) rfl (by kernel_rfl) (by kernel_rfl) (by kernel_rfl) (fun _ _ _ h => h) (Or.inl ⟨by rfl, ?_⟩) (by assumption) ?_
    rotate_left 1
    · (intro w hSw; (try dsimp only at hSw); go_simp) <;> (with_reducible rfl)
    try simp only [Act.put, List.setIfInBounds_toArray, List.set_cons_zero, List.set_cons_succ]
    refine wpAnyH_take (i := 2) (oi := ⟨some 11, _, _, _, _, _⟩) (v := ?_) rfl (by kernel_rfl) (by kernel_rfl) (by kernel_rfl) (fun _ _ _ h => h) (Or.inl ⟨by rfl, ?_⟩) (by assumption) ?_
    rotate_left 1
    · (intro w hSw; (try dsimp only at hSw); go_simp) <;> (with_reducible rfl)
    try simp only [Act.put, List.setIfInBounds_toArray, List.set_cons_zero, List.set_cons_succ]
    refine wpAnyH_take (i := 3) (oi := ⟨some 12, _, _, _, _, _⟩) (v := ?_) rfl (by kernel_rfl) (by kernel_rfl) (by kernel_rfl) (fun _ _ _ h => h) (Or.inl ⟨by rfl, ?_⟩) (by assumption) ?_
    rotate_left 1
    · (intro w hSw; (try dsimp only at hSw); go_simp) <;> (with_reducible rfl)
    try simp only [Act.put, List.setIfInBounds_toArray, List.set_cons_zero, List.set_cons_succ]
    refine wpAnyH_take (i := 4) (oi := ⟨some 13, _, _, _, _, _⟩) (v := ?_) rfl (by kernel_rfl) (by kernel_rfl) (by kernel_rfl) (fun _ _ _ h => h) (Or.inl ⟨by rfl, ?_⟩) (by assumption) ?_
    rotate_left 1
    · (intro w hSw; (try dsimp only at hSw); go_simp) <;> (with_reducible rfl)
    try simp only [Act.put, List.setIfInBounds_toArray, List.set_cons_zero, List.set_cons_succ]
    refine wpAnyH_take (i := 5) (oi := ⟨some 14, _, _, _, _, _⟩) (v := ?_) rfl (by kernel_rfl) (by kernel_rfl) (by kernel_rfl) (fun _ _ _ h => h) (Or.inl ⟨by rfl, ?_⟩) (by assumption) ?_
    rotate_left 1
    · (intro w hSw; (try dsimp only at hSw); go_simp) <;> (with_reducible rfl)
    try simp only [Act.put, List.setIfInBounds_toArray, List.set_cons_zero, List.set_cons_succ]
    refine wpAnyH_take (i := 6) (oi := ⟨some 15, _, _, _, _, _⟩) (v := ?_) rfl (by kernel_rfl) (by kernel_rfl) (by kernel_rfl) (fun _ _ _ h => h) (Or.inl ⟨by rfl, ?_⟩) (by assumption) ?_
    rotate_left 1
    · (intro w hSw; (try dsimp only at hSw); go_simp) <;> (with_reducible rfl)
    try simp only [Act.put, List.setIfInBounds_toArray, List.set_cons_zero, List.set_cons_succ]
    refine wpAnyH_take (i := 7) (oi := ⟨some 16, _, _, _, _, _⟩) (v := ?_) rfl (by kernel_rfl) (by kernel_rfl) (by kernel_rfl) (fun _ _ _ h => h) (Or.inl ⟨by rfl, ?_⟩) (by assumption) ?_
    rotate_left 1
    · (intro w hSw; (try dsimp only at hSw); go_simp) <;> (with_reducible rfl)
    try simp only [Act.put, List.setIfInBounds_toArray, List.set_cons_zero, List.set_cons_succ]
    refine wpAnyH_take (i := 8) (oi := ⟨some 17, _, _, _, _, _⟩) (v := ?_) rfl (by kernel_rfl) (by kernel_rfl) (by kernel_rfl) (fun _ _ _ h => h) (Or.inl ⟨by rfl, ?_⟩) (by assumption) ?_
    rotate_left 1
    · (intro w hSw; (try dsimp only at hSw); go_simp) <;> (with_reducible rfl)
    try simp only [Act.put, List.setIfInBounds_toArray, List.set_cons_zero, List.set_cons_succ]
    refine wpAnyH_ready (rs := [9]) (by kernel_rfl) (by simp) ?_
    refine AllReadyH.cons (o := ⟨some 18, _, _, _, _, _⟩) rfl (fun K hK => ?_) AllReadyH.nil
    go_simp
    go_at_call 23
    refine (HFI.out _ HB.out.drew).mono ?_
    rintro e w3 ⟨rfl, rfl⟩
    go_wp2_with fail
    refine hK.out _ _ ?_ (fun hHeld => ?_)
    · first | exact ⟨c0, c3⟩ | exact ⟨k04, k34⟩
    clear hK K
    try simp only [Act.put, List.setIfInBounds_toArray, List.set_cons_zero, List.set_cons_succ]
    refine wpAnyH_ready (rs := [10]) (by kernel_rfl) (by simp) ?_
    refine AllReadyH.cons (o := ⟨some 19, _, _, _, _, _⟩) rfl (fun K hK => ?_) AllReadyH.nil
    go_simp
    go_at_call 18
    refine (HSY.out _ (Fr.refl _ _).drew).mono ?_
    rintro e w4 ⟨rfl, ha4, hf4⟩
    have hw4 := WL.disk (rfl : g.pl = g.pl) (HLG.out.fr ((Fr.refl NoBlk w0).drew) fun _ _ h => h) HSG.out HTG.out ha4 hf4
    have HAA : Hid (AtS w w4 gd (pSync p nk).1 (Mine gl g S)) := ha4
    have HL4 : Hid (LgIn w4 w.heap.size gd gl g) := (HLG.out.fr ((Fr.refl NoBlk w0).drew) fun _ _ h => h).fr hf4 fun k hk hc => hc.1 (.inl hk)
    have HF4 : Hid (Fr (Loose w S) w0 w4) := ((Fr.refl _ w0).drew).trans hw4.2
    have HT4 : Hid (∀ k, S k → k < w4.heap.size) := fun k hk => Nat.lt_of_lt_of_le (HTG.out k hk) HF4.out.size
    have k04 : w4.cell? ⟨gl, 0, none⟩ = some (.pointer (some ⟨gd, 0, none⟩)) := HL4.out.bk.cell 0
    have k34 : w4.cell? ⟨gl, 3, none⟩ = some (.int .i64 g.last) := HL4.out.bk.cell 3
    clear ha4 hf4 hw4
    generalize (pSync p nk).2 = z at *
    go_wp2_with fail
    refine hK.out _ _ ?_ (fun hHeld => ?_)
    · first | exact ⟨c0, c3⟩ | exact ⟨k04, k34⟩
    clear hK K
    try simp only [Act.put, List.setIfInBounds_toArray, List.set_cons_zero, List.set_cons_succ]
    refine wpAnyH_take (i := 11) (oi := ⟨some 3, _, _, _, _, _⟩) (v := ?_) rfl (by kernel_rfl) (by kernel_rfl) (by kernel_rfl) (fun _ _ _ h => h) (Or.inl ⟨by rfl, ?_⟩) (by assumption) ?_
    rotate_left 1
    · (intro w hSw; (try dsimp only at hSw); go_simp) <;> (with_reducible rfl)
    try simp only [Act.put, List.setIfInBounds_toArray, List.set_cons_zero, List.set_cons_succ]
    refine wpAnyH_done (by kernel_rfl) ?_ _
    have b4 := HL4.out.bk
    have k54 : w4.cell? ⟨gl, 5, none⟩ = some (.bool g.waits) := b4.cell 5
    have z54 := b4.free 5
    have HZ : Hid (LPost w w0 gd gl rr S (.returned (.int .i64 z)) (w4.setCell ⟨gl, 5, none⟩ (.bool (z != 0)))) := by
      rw [HEQ.out]
      have h5 := WL.set (g' := { g with waits := (z != 0) }) (w' := w4.setCell ⟨gl, 5, none⟩ (.bool (z != 0))) rfl HL4.out HAA.out HSG.out HT4.out ((Fr.refl (fun j => j = gl) w4).setCell (p := ⟨gl, 5, none⟩) (fun _ => rfl) _) (b4.put 5 (.bool (z != 0))) rfl rfl rfl rfl HL4.out.lst HL4.out.us
      exact ⟨rfl, h5.1, HF4.out.trans h5.2⟩
    clear b4 HAA HL4 HEQ
    go_wp2_with fail
    go_ret
    exact HZ.out
end Go.Proofs.YthnaggmafbhdmaaDoor
