/- The disk's Rename. Condition: lengths. -/
import Derived.Test.YtafiokabnlmgpaaGreatDoorRemove
namespace Go.Proofs.YtafiokabnlmgpaaGreatDoor
open Go.RowKit Go.Maps

theorem total_del {L : List Fil} {f : Fil} (hf : f ∈ L) : total (delFil L f.name) + f.data.length ≤ total L := by
  induction L with
  | nil => cases hf
  | cons g t ih =>
    unfold delFil at ih ⊢
    rw [List.filter_cons]
    rcases List.mem_cons.1 hf with rfl | h
    · rw [if_neg (by simp)]
      show total _ + _ ≤ f.data.length + total t
      have := total_filter t fun g => !decide (g.name = f.name)
      omega
    · have := ih h
      split
      · show g.data.length + total _ + _ ≤ g.data.length + total t
        omega
      · show total _ + _ ≤ g.data.length + total t
        omega
theorem length_del {L : List Fil} {f : Fil} (hf : f ∈ L) : (delFil L f.name).length + 1 ≤ L.length := by
  have h := List.length_filter_lt_length_iff_exists (p := fun g : Fil => !decide (g.name = f.name)) (l := L)
  have := h.2 ⟨f, hf, by simp⟩
  unfold delFil
  omega
theorem far_mem {L : List Fil} (h : L.Pairwise Far) {f g : Fil} (hf : f ∈ L) (hg : g ∈ L) (hn : f.name ≠ g.name) : Far f g := by
  induction L with
  | nil => cases hf
  | cons x t ih =>
    rw [List.pairwise_cons] at h
    rcases List.mem_cons.1 hf with rfl | h1
    · rcases List.mem_cons.1 hg with rfl | h2
      · exact absurd rfl hn
      · exact h.1 g h2
    · rcases List.mem_cons.1 hg with rfl | h2
      · exact (h.1 f h1).symm
      · exact ih h.2 h1 h2
def moved (L : List Fil) (f : Fil) (tt : Bs) : List Fil := insFil ⟨tt, f.blk, f.A, f.cap, f.data, f.lasts⟩ (delFil (delFil L f.name) tt)
theorem DkIn.move {w w' : World} {B gd : Nat} {m : Dsk} (h : DkIn w B gd m) {f : Fil} (hf : f ∈ m.files) {tt : Bs} (ht : tt.length ≤ 16) (hm : Mp w' m.bm (putF (delF (fsOf m.files) f.name) tt f.blk)) (hr : Fr (fun j => j = m.bm) w w') :
    DkIn w' B gd { m with files := moved m.files f tt } := by
  have hp := insFil_perm ⟨tt, f.blk, f.A, f.cap, f.data, f.lasts⟩ (delFil (delFil m.files f.name) tt)
  have hfil : ∀ f ∈ m.files, FilIn w' B f := fun f hf' => (h.fil f hf').fr hr (fun e => (h.fil f hf').bk.notMap h.mp e) fun j hj e => own_notMap (h.fil f hf').own h.mp hj e
  have hsub : ∀ g ∈ delFil (delFil m.files f.name) tt, g ∈ m.files ∧ g.name ≠ f.name := fun g hg => by
    have h1 := List.mem_filter.1 (List.mem_filter.1 hg).1
    exact ⟨h1.1, by simpa using h1.2⟩
  refine ⟨h.bk.fr hr (fun e => h.bk.notMap h.mp e), ?_, ?_, ?_, h.bd, h.bb, ?_, h.most, ?_, h.lf⟩
  · show Mp w' m.bm (fsOf (insFil _ _))
    rw [fsOf_ins, fsOf_del, fsOf_del]
    exact hm
  · intro g hg
    rcases List.mem_cons.1 (hp.mem_iff.1 hg) with rfl | hg
    · have := hfil f hf
      exact ⟨this.bk, this.own, this.base, this.lasts, ht⟩
    · exact hfil g (hsub g hg).1
  · refine (hp.pairwise_iff fun {a b} hab => hab.symm).2 (List.pairwise_cons.2 ⟨fun g hg => ?_, (h.far.filter _).filter _⟩)
    have hx : Far f g := far_mem h.far hf (hsub g hg).1 fun e => (hsub g hg).2 e.symm
    exact ⟨hx.1, hx.2⟩
  · show total (insFil _ _) ≤ m.room
    rw [total_perm hp]
    show f.data.length + total _ ≤ _
    have h1 := total_del hf
    have h2 := total_filter (delFil m.files f.name) fun g => !decide (g.name = tt)
    have h3 := h.fits
    unfold delFil at *
    omega
  · show (insFil _ _).length ≤ 32
    rw [hp.length_eq, List.length_cons]
    have h1 := length_del hf
    have h2 := List.length_filter_le (fun g : Fil => !decide (g.name = tt)) (delFil m.files f.name)
    have h3 := h.few
    unfold delFil at *
    omega
theorem move_blks {gd : Nat} {m : Dsk} {f : Fil} (hf : f ∈ m.files) {tt : Bs} (j : Nat) (hj : Blks gd { m with files := moved m.files f tt } j) : Blks gd m j := by
  rcases hj with e | e | ⟨g, hg, hj⟩
  · exact .inl e
  · exact .inr (.inl e)
  · rcases List.mem_cons.1 ((insFil_perm _ _).mem_iff.1 hg) with rfl | hg
    · exact .inr (.inr ⟨f, hf, hj⟩)
    · exact .inr (.inr ⟨g, (List.mem_filter.1 (List.mem_filter.1 hg).1).1, hj⟩)
theorem moved_map (L : List Fil) (f : Fil) (tt : Bs) : (moved L f tt).map Fil.pf = pins { f.pf with name := tt } (pdel (pdel (L.map Fil.pf) f.name) tt) := by
  unfold moved
  rw [pins_map, pdel_map, pdel_map]
  rfl

set_option maxRecDepth 100000 in
set_option maxHeartbeats 1000000 in
theorem rename2_any (w : World) (B gd : Nat) (m : Dsk) (h : DkIn w B gd m) (f : Fil) (hf : f ∈ m.files) (hk : f.name.length ≤ maxLen) (tt : Bs) (ht : tt.length ≤ 16) (bd bn bt : Nat) (hbd : Bk w bd 26 #[.pointer (some ⟨gd, 0, none⟩)]) (hbn : Bk w bn 9 #[.string (bstr f.name)]) (hbt : Bk w bt 9 #[.string (bstr tt)])
    (nd : bd ≠ m.bm) (nt : bt ≠ m.bm) :
    Calls Tryz.prog 136 #[.pointer (some ⟨f.blk, 0, none⟩), .pointer (some ⟨bd, 0, none⟩), .pointer (some ⟨bn, 0, none⟩), .pointer (some ⟨bt, 0, none⟩)] w (ActPost w B gd m fun L => pins { f.pf with name := tt } (pdel (pdel L f.name) tt)) := by
  have hne : gd ≠ m.bm := fun e => h.bk.notMap h.mp e
  have hgl := h.bk.lt
  obtain ⟨_, c1, _, _⟩ := h.cell
  have d1 := hbd.cell 0
  have n1 := hbn.cell 0
  have HX : Hid (∀ w', Mp w' m.bm (putF (delF (fsOf m.files) f.name) tt f.blk) → Fr (fun j => j = m.bm) w w' → ActPost w B gd m (fun L => pins { f.pf with name := tt } (pdel (pdel L f.name) tt)) (.returned (.tuple #[])) w') := by
    intro w' hm hr
    refine ⟨_, rfl, ?_, h.move hf ht hm hr, hr.mono fun j _ e => .inr (.inl e), fun j hj => .inl (move_blks hf j hj)⟩
    unfold Dsk.pd
    dsimp only
    rw [moved_map]
  have hlen : (delF (fsOf m.files) f.name).length ≤ 1000 := by
    have h1 : (delF (fsOf m.files) f.name).length ≤ (fsOf m.files).length := List.length_filter_le _ _
    have h2 : (fsOf m.files).length = m.files.length := List.length_map ..
    have := h.few
    omega
  have htm : tt.length ≤ maxLen := by unfold maxLen; omega
  obtain ⟨w1, r1, m1, f1⟩ := h.mp.del f.name hk 0
  obtain ⟨w2, r2, m2, f2⟩ := (h.mp.fr ((Fr.refl NoBlk w).drew) (fun h => h)).del f.name hk 0
  have g2 : Fr (fun j => j = m.bm) w w2 := ((Fr.refl (fun j => j = m.bm) w).drew).trans f2
  have K : ∀ W, Mp W m.bm (delF (fsOf m.files) f.name) → Fr (fun j => j = m.bm) w W → ∃ W', (Instr.mapUpdate 103 (.map (some m.bm)) (.string (bstr tt)) (.pointer (some ⟨f.blk, 0, none⟩))).run Tryz.prog W = .ok () W' ∧ Hid (ActPost w B gd m (fun L => pins { f.pf with name := tt } (pdel (pdel L f.name) tt)) (.returned (.tuple #[])) W') := fun W hm hr => by
    obtain ⟨W', hrun, hm', hf'⟩ := hm.put tt htm hlen f.blk
    exact ⟨W', hrun, HX.out W' hm' (hr.trans hf')⟩
  obtain ⟨x1, s1, y1⟩ := K w1 m1 f1
  obtain ⟨x2, s2, y2⟩ := K w1.drew (m1.fr ((Fr.refl NoBlk w1).drew) (fun h => h)) f1.drew
  obtain ⟨x3, s3, y3⟩ := K w2 m2 g2
  obtain ⟨x4, s4, y4⟩ := K w2.drew (m2.fr ((Fr.refl NoBlk w2).drew) (fun h => h)) g2.drew
  have p1 : w1.cell? ⟨bd, 0, none⟩ = some (.pointer (some ⟨gd, 0, none⟩)) := (hbd.fr f1 nd).cell 0
  have p2 : w2.cell? ⟨bd, 0, none⟩ = some (.pointer (some ⟨gd, 0, none⟩)) := (hbd.fr g2 nd).cell 0
  have t1 : w1.cell? ⟨bt, 0, none⟩ = some (.string (bstr tt)) := (hbt.fr f1 nt).cell 0
  have t2 : w2.cell? ⟨bt, 0, none⟩ = some (.string (bstr tt)) := (hbt.fr g2 nt).cell 0
  have q1 : w1.cell? ⟨gd, 1, none⟩ = some (.map (some m.bm)) := (f1.cell (p := ⟨gd, 1, none⟩) hgl hne).trans c1
  have q2 : w2.cell? ⟨gd, 1, none⟩ = some (.map (some m.bm)) := (g2.cell (p := ⟨gd, 1, none⟩) hgl hne).trans c1
  replace d1 : w.cell? ⟨bd, 0, none⟩ = some (.pointer (some ⟨gd, 0, none⟩)) := d1
  replace n1 : w.cell? ⟨bn, 0, none⟩ = some (.string (bstr f.name)) := n1
  clear K HX f1 f2 g2 m1 m2 hbd hbn hbt h hf
  generalize m.bm = bm at *
  go_enter Tryz.func136, Tryz.ntmps136
  go_wp2_with fail
  go_region_with (fail)
  all_goals
    go_wp2_with fail
    go_region_with (fail)
  all_goals
    go_wp2_with fail
    go_end0
    first | exact y1.out | exact y2.out | exact y3.out | exact y4.out
end Go.Proofs.YtafiokabnlmgpaaGreatDoor
