/- The disk's Remove. Condition: lengths. -/
import Derived.Test.YtafiokabnlmgpaaGreatDoorCalls
import Derived.Deep.RegionWith
namespace Go.Proofs.YtafiokabnlmgpaaGreatDoor
open Go.RowKit Go.Maps

theorem total_filter (L : List Fil) (q : Fil → Bool) : total (L.filter q) ≤ total L := by
  induction L with
  | nil => exact Nat.le_refl _
  | cons f t ih =>
    rw [List.filter_cons]
    split
    · show f.data.length + total _ ≤ f.data.length + total t
      omega
    · show total _ ≤ f.data.length + total t
      omega
def delFil (L : List Fil) (k : Bs) : List Fil := L.filter fun g => !decide (g.name = k)
theorem fsOf_del (L : List Fil) (k : Bs) : fsOf (delFil L k) = delF (fsOf L) k := by
  unfold delFil delF fsOf
  rw [List.filter_map]
  rfl
theorem pdel_map (L : List Fil) (k : Bs) : (delFil L k).map Fil.pf = pdel (L.map Fil.pf) k := by
  unfold delFil pdel
  rw [List.filter_map]
  rfl
theorem DkIn.delete {w w' : World} {B gd : Nat} {m : Dsk} (h : DkIn w B gd m) {k : Bs} (hm : Mp w' m.bm (delF (fsOf m.files) k)) (hf : Fr (fun j => j = m.bm) w w') :
    DkIn w' B gd { m with files := delFil m.files k } := by
  refine ⟨h.bk.fr hf (fun e => h.bk.notMap h.mp e), ?_, fun f hf' => ?_, h.far.filter _, h.bd, h.bb, ?_, h.most, ?_, h.lf⟩
  · show Mp w' m.bm (fsOf (delFil _ _))
    rw [fsOf_del]
    exact hm
  · have hmem : f ∈ m.files := (List.mem_filter.1 hf').1
    exact (h.fil f hmem).fr hf (fun e => (h.fil f hmem).bk.notMap h.mp e) fun j hj e => own_notMap (h.fil f hmem).own h.mp hj e
  · exact Nat.le_trans (total_filter _ _) h.fits
  · exact Nat.le_trans (List.length_filter_le _ _) h.few
theorem del_blks {gd : Nat} {m : Dsk} {k : Bs} (j : Nat) (hj : Blks gd { m with files := delFil m.files k } j) : Blks gd m j := by
  rcases hj with e | e | ⟨g, hg, hj⟩
  · exact .inl e
  · exact .inr (.inl e)
  · exact .inr (.inr ⟨g, (List.mem_filter.1 hg).1, hj⟩)

set_option maxRecDepth 100000 in
theorem remove1_any (w : World) (B gd : Nat) (m : Dsk) (h : DkIn w B gd m) (f : Value) (k : Bs) (hk : k.length ≤ maxLen) (bd bn : Nat) (hbd : w.cell? ⟨bd, 0, none⟩ = some (.pointer (some ⟨gd, 0, none⟩))) (hbn : w.cell? ⟨bn, 0, none⟩ = some (.string (bstr k))) :
    Calls Tryz.prog 128 #[f, .pointer (some ⟨bd, 0, none⟩), .pointer (some ⟨bn, 0, none⟩)] w (ActPost w B gd m fun L => pdel L k) := by
  obtain ⟨_, c1, _, _⟩ := h.cell
  have HX : Hid (∀ w', Mp w' m.bm (delF (fsOf m.files) k) → Fr (fun j => j = m.bm) w w' → ActPost w B gd m (fun L => pdel L k) (.returned (.tuple #[])) w') := by
    intro w' hm hf
    refine ⟨_, rfl, ?_, h.delete hm hf, hf.mono fun j _ e => .inr (.inl e), fun j hj => .inl (del_blks j hj)⟩
    unfold Dsk.pd
    dsimp only
    rw [pdel_map]
  have HM := Lib.hid h.mp
  obtain ⟨bm, hbm⟩ : ∃ bm, bm = m.bm := ⟨_, rfl⟩
  rw [← hbm] at c1 HX HM
  clear h hbm
  go_enter Tryz.func128, Tryz.ntmps128
  obtain ⟨w1, hr1, hm1, hf1⟩ := HM.out.del k hk 0
  obtain ⟨w2, hr2, hm2, hf2⟩ := (HM.out.fr ((Fr.refl NoBlk w).drew) (fun h => h)).del k hk 0
  have H1 := Lib.hid (HX.out w1 hm1 hf1)
  have H2 := Lib.hid (HX.out w2 hm2 (((Fr.refl (fun j => j = bm) w).drew).trans hf2))
  clear hm1 hf1 hm2 hf2 HX HM
  go_wp2_with fail
  go_region_with (fail)
  all_goals
    go_wp2_with fail
    go_end0
    first | exact H1.out | exact H2.out
theorem enters_remove1 : ∀ args w, (callFunc 128 args).run Tryz.prog w = .ok (.enter 128 args) w := enters_of Tryz.func128 (by kernel_rfl) rfl
theorem DkPost.old {w wb w' : World} {B gd : Nat} {m : Dsk} {r : PD × Int} {e : Ending} (h : DkPost wb B gd m r e w') (hf : Fr NoBlk w wb) : DkPost w B gd m r e w' := by
  obtain ⟨m', he, hp, hd, hf2, hb⟩ := h
  refine ⟨m', he, hp, hd, (hf.mono fun _ _ h => h.elim).trans hf2, fun k hk => (hb k hk).imp id fun h => Nat.le_trans hf.size h⟩
set_option maxRecDepth 100000 in
theorem remove_any (w : World) (B gd : Nat) (m : Dsk) (h : DkIn w B gd m) (k : Bs) (hk : k.length ≤ maxLen) :
    Calls Tryz.prog 93 #[.pointer (some ⟨gd, 0, none⟩), .string (bstr k)] w (DkPost w B gd m (pRemove m.pd k)) := by
  have hg := h.bk.lt
  have f1 : Fr NoBlk w (w.alloc (.cells #[.pointer (some ⟨gd, 0, none⟩)] 26)) := (Fr.refl _ _).alloc _
  have f2 : Fr NoBlk (w.alloc (.cells #[.pointer (some ⟨gd, 0, none⟩)] 26)) ((w.alloc (.cells #[.pointer (some ⟨gd, 0, none⟩)] 26)).alloc (.cells #[.string (bstr k)] 9)) := (Fr.refl _ _).alloc _
  have b1 := (Bk.new w 26 #[.pointer (some ⟨gd, 0, none⟩)]).fr f2 fun h => h
  have b2 := Bk.new (w.alloc (.cells #[.pointer (some ⟨gd, 0, none⟩)] 26)) 9 #[.string (bstr k)]
  rw [World.size_alloc] at b2
  have HF := Lib.hid (f1.trans f2)
  have HC := Lib.hid (change_any _ B gd m (h.nofr HF.out) k hk 127 #[] 128 #[.pointer (some ⟨w.heap.size, 0, none⟩), .pointer (some ⟨w.heap.size + 1, 0, none⟩)] (fun _ => true) (fun _ L => pdel L k) enters_always enters_remove1
    (fun f _ _ => (always_any _ _).mono fun e w' ⟨he, hw⟩ => ⟨he, hw ▸ Fr.refl _ _⟩)
    (fun f hf hn _ W hd hfr => remove1_any W B gd (spent m) hd _ k hk w.heap.size (w.heap.size + 1) ((b1.fr hfr (fun e => by omega)).cell 0) ((b2.fr hfr (fun e => by omega)).cell 0)))
  clear h hk b1 b2 f1 f2 hg
  go_enter Tryz.func93, Tryz.ntmps93
  go_wp2_with fail
  refine HC.out.mono ?_
  intro e w1 hp
  obtain ⟨m1, rfl, hp1⟩ := hp
  have HP : Hid (DkPost w B gd m (pRemove m.pd k) (.returned (.int .i64 (pRemove m.pd k).2)) w1) := DkPost.old ⟨m1, rfl, hp1⟩ HF.out
  have e2 : (pChange m.pd k (fun _ => true) fun _ L => pdel L k).2 = (pRemove m.pd k).2 := rfl
  rw [e2]
  generalize (pRemove m.pd k).2 = z at *
  clear hp1 e2
  go_wp2_with fail
  go_ret
  exact HP.out
end Go.Proofs.YtafiokabnlmgpaaGreatDoor
