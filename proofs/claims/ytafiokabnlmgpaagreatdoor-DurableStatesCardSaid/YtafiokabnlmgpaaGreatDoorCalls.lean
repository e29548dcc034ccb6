/- The disk's Sync, Read, Limit, New. Condition: lengths. -/
import Derived.Test.YtafiokabnlmgpaaGreatDoorChange
namespace Go.Proofs.YtafiokabnlmgpaaGreatDoor
open Go.RowKit Go.Maps

/-- a file of which another part lasts. -/
theorem DkIn.last {w : World} {B gd : Nat} {m : Dsk} (h : DkIn w B gd m) {f : Fil} (hf : f ∈ m.files) (n : Nat) (hn : n ≤ f.data.length) :
    DkIn (w.setCell ⟨f.blk, 1, none⟩ (.int .i64 n)) B gd { m with files := setFil m.files f.name ⟨f.name, f.blk, f.A, f.cap, f.data, n⟩ } ∧ Fr (Blks gd m) w (w.setCell ⟨f.blk, 1, none⟩ (.int .i64 n)) := by
  have hfi := h.fil f hf
  have hfr : Fr (fun j => j = f.blk ∨ f.sl.ownBlock = some j) w (w.setCell ⟨f.blk, 1, none⟩ (.int .i64 n)) := (Fr.refl _ w).setCell (p := ⟨f.blk, 1, none⟩) (fun _ => .inl rfl) _
  refine ⟨h.turn hf rfl rfl hfr ⟨hfi.bk.put 1 (.int .i64 n), ?_, hfi.base, hn, hfi.nm⟩ (.inl rfl) ?_, hfr.mono fun j _ e => .inr (.inr ⟨f, hf, ?_⟩)⟩
  · exact own_fr hfi.own ((Fr.refl (fun j => j = f.blk) w).setCell (p := ⟨f.blk, 1, none⟩) (fun _ => rfl) _) fun j hj e => own_apart hfi.own hfi.bk (by decide) (e ▸ hj)
  · show total m.files + f.data.length ≤ _
    have := h.fits
    omega
  · exact e
theorem set_blks {gd : Nat} {m : Dsk} {f x : Fil} (hf : f ∈ m.files) (h2 : x.blk = f.blk) (h3 : x.sl.ownBlock = f.sl.ownBlock) (j : Nat) (hj : Blks gd { m with files := setFil m.files f.name x } j) : Blks gd m j := by
  rcases hj with e | e | ⟨g, hg, hj⟩
  · exact .inl e
  · exact .inr (.inl e)
  · rcases mem_set hg with rfl | ⟨hg, _⟩
    · rw [h2, h3] at hj
      exact .inr (.inr ⟨f, hf, hj⟩)
    · exact .inr (.inr ⟨g, hg, hj⟩)

set_option maxRecDepth 100000 in
theorem sync1_any (w : World) (B gd : Nat) (m : Dsk) (h : DkIn w B gd m) (f : Fil) (hf : f ∈ m.files) :
    Calls Tryz.prog 134 #[.pointer (some ⟨f.blk, 0, none⟩)] w (ActPost w B gd m fun L => pset L f.name fun g => { g with last := g.data.length }) := by
  have hfi := h.fil f hf
  have d0 : w.cell? ⟨f.blk, 0, none⟩ = some (.slice f.A f.data.length f.cap) := hfi.bk.cell 0
  have d1 : w.cell? ⟨f.blk, 1, none⟩ = some (.int .i64 f.lasts) := hfi.bk.cell 1
  have g1 := hfi.bk.free 1
  have HX : Hid (ActPost w B gd m (fun L => pset L f.name fun g => { g with last := g.data.length }) (.returned (.tuple #[])) (w.setCell ⟨f.blk, 1, none⟩ (.int .i64 f.data.length))) := by
    obtain ⟨a, b⟩ := h.last hf f.data.length (Nat.le_refl _)
    refine ⟨_, rfl, ?_, a, b, fun j hj => .inl (set_blks (x := ⟨f.name, f.blk, f.A, f.cap, f.data, f.data.length⟩) hf rfl rfl j hj)⟩
    unfold Dsk.pd
    dsimp only
    rw [pset_map h.nodup hf (fun g => { g with last := g.data.length }) rfl]
  clear h hf hfi
  go_enter Tryz.func134, Tryz.ntmps134
  go_wp2_with fail
  go_end0
  exact HX.out

theorem enters_always : ∀ args w, (callFunc 127 args).run Tryz.prog w = .ok (.enter 127 args) w := enters_of Tryz.func127 (by kernel_rfl) rfl
theorem enters_sync1 : ∀ args w, (callFunc 134 args).run Tryz.prog w = .ok (.enter 134 args) w := enters_of Tryz.func134 (by kernel_rfl) rfl

set_option maxRecDepth 100000 in
theorem sync_any (w : World) (B gd : Nat) (m : Dsk) (h : DkIn w B gd m) (k : Bs) (hk : k.length ≤ maxLen) :
    Calls Tryz.prog 96 #[.pointer (some ⟨gd, 0, none⟩), .string (bstr k)] w (DkPost w B gd m (pSync m.pd k)) := by
  have HC := Lib.hid (change_any w B gd m h k hk 127 #[] 134 #[] (fun _ => true) (fun _ L => pset L k fun g => { g with last := g.data.length }) enters_always enters_sync1
    (fun f _ _ => (always_any w _).mono fun e w' ⟨he, hw⟩ => ⟨he, hw ▸ Fr.refl _ _⟩)
    (fun f hf hn _ W hd _ => by
      have := sync1_any W B gd (spent m) hd f (by rw [spent_files]; exact hf)
      rw [hn] at this
      exact this))
  clear h hk
  go_enter Tryz.func96, Tryz.ntmps96
  go_wp2_with fail
  refine HC.out.mono ?_
  intro e w1 hp
  obtain ⟨m1, rfl, hp1⟩ := hp
  have HP : Hid (DkPost w B gd m (pSync m.pd k) (.returned (.int .i64 (pSync m.pd k).2)) w1) := ⟨m1, rfl, hp1⟩
  have e2 : (pChange m.pd k (fun _ => true) fun _ L => pset L k fun g => { g with last := g.data.length }).2 = (pSync m.pd k).2 := rfl
  rw [e2]
  generalize (pSync m.pd k).2 = z at *
  clear hp1 e2
  go_wp2_with fail
  go_ret
  exact HP.out

def ReadPost (w : World) (r : Bs × Int) (e : Ending) (w' : World) : Prop := ∃ A c, e = .returned (.tuple #[.slice A r.1.length c, .int .i64 r.2]) ∧ GotB w w' r.1.length 1 5 (cb r.1) A c
theorem GotB.none_ (w : World) (T : TypeId) : GotB w w 0 1 T [] none 0 := ⟨⟨Rd.none_ _ _, Nat.le_refl _, Nat.zero_le _, fun _ => rfl, fun h => absurd h (by omega), Fr.refl _ _⟩, fun h => absurd h (by simp)⟩

set_option maxRecDepth 100000 in
theorem read_any (w : World) (B gd : Nat) (m : Dsk) (h : DkIn w B gd m) (k : Bs) (hk : k.length ≤ maxLen) :
    Calls Tryz.prog 36 #[.pointer (some ⟨gd, 0, none⟩), .string (bstr k)] w (ReadPost w (pRead m.pd k)) := by
  obtain ⟨c0, c1, c2, c3⟩ := h.cell
  have hlook := h.mp.look k hk
  rw [look_find] at hlook
  have HD := Lib.hid h
  clear h hk
  obtain ⟨r, hrr⟩ : ∃ r, r = pRead m.pd k := ⟨_, rfl⟩
  rw [← hrr]
  have HP := Lib.hid hrr
  clear hrr
  cases hdn : m.down with
  | true =>
    rw [hdn] at c3
    have HQ : Hid (r = ([], 3)) := by show _ = _; rw [HP.out]; unfold pRead; rw [if_pos (show m.pd.down = true from hdn)]
    clear hdn
    go_enter Tryz.func36, Tryz.ntmps36
    go_wp2_with fail
    go_ret2
    rw [HQ.out]
    exact ⟨none, 0, rfl, GotB.none_ _ _⟩
  | false =>
  rw [hdn] at c3
  have HP := Lib.hid (HP.out.trans (by unfold pRead; rw [if_neg (show ¬ m.pd.down = true by rw [show m.pd.down = m.down from rfl, hdn]; simp)]))
  clear hdn
  cases ho : m.files.find? (fun f => decide (f.name = k)) with
  | none =>
    rw [ho] at hlook
    replace hlook : (Instr.lookup 103 (.map (some m.bm)) (.string (bstr k)) false).run Tryz.prog w = .ok (.pointer none) w := hlook
    have hpf : pfind m.pd.files k = none := by show pfind (m.files.map Fil.pf) k = none; rw [pfind_map, ho]; rfl
    have HQ : Hid (r = ([], 60)) := by show _ = _; rw [HP.out, hpf]
    clear ho hpf
    go_enter Tryz.func36, Tryz.ntmps36
    go_wp2_with fail
    go_ret2
    rw [HQ.out]
    exact ⟨none, 0, rfl, GotB.none_ _ _⟩
  | some f =>
    rw [ho] at hlook
    obtain ⟨hmem, hnm⟩ := find_mem ho
    replace hlook : (Instr.lookup 103 (.map (some m.bm)) (.string (bstr k)) false).run Tryz.prog w = .ok (.pointer (some ⟨f.blk, 0, none⟩)) w := hlook
    have hpf : pfind m.pd.files k = some f.pf := by show pfind (m.files.map Fil.pf) k = _; rw [pfind_map, ho]; rfl
    have HQ : Hid (r = (f.data, 0)) := by show _ = _; rw [HP.out, hpf]; rfl
    have hfi := HD.out.fil f hmem
    have d0 : w.cell? ⟨f.blk, 0, none⟩ = some (.slice f.A f.data.length f.cap) := hfi.bk.cell 0
    have hft := total_mem hmem
    have hfs := HD.out.fits
    have hms := HD.out.most
    obtain ⟨A', c', e', hc', hA'⟩ := own_form hfi.own
    unfold Fil.sl at e'
    injection e' with e1 e2 e3
    subst e1 e3
    have HK := Lib.hid (cloneB_any w f.A f.data.length f.cap f.data rfl (Rd.of_own hfi.own) hA' hc' (by omega))
    clear ho hnm hmem hpf hfi e2 hc' hA' hft hfs hms
    go_enter Tryz.func36, Tryz.ntmps36
    go_wp2_with fail
    refine HK.out.mono ?_
    rintro e w1 ⟨A1, c1', rfl, hg⟩
    have HG := Lib.hid hg
    clear hg HK
    go_wp2_with fail
    go_ret2
    rw [HQ.out]
    exact ⟨A1, c1', rfl, HG.out⟩

set_option maxRecDepth 100000 in
theorem limit_any (w : World) (B gd : Nat) (m : Dsk) (h : DkIn w B gd m) (z : Int) (hz : -9223372036854775808 ≤ z ∧ z ≤ 9223372036854775807) :
    Calls Tryz.prog 15 #[.pointer (some ⟨gd, 0, none⟩), .int .i64 z] w fun e w' => e = .returned (.tuple #[]) ∧ DkIn w' B gd { m with left := z } ∧ Fr (fun j => j = gd) w w' := by
  obtain ⟨c0, c1, c2, c3⟩ := h.cell
  have f2 := h.bk.free 2
  have HD := Lib.hid (h.put2 z hz)
  clear h
  go_enter Tryz.func15, Tryz.ntmps15
  go_wp2_with fail
  go_end0
  exact ⟨rfl, HD.out, (Fr.refl (fun j => j = gd) w).setCell (p := ⟨gd, 2, none⟩) (fun _ => rfl) _⟩

/-- a new disk. -/
def NewPost (w : World) (p : PD) (e : Ending) (w' : World) : Prop := ∃ gd m, e = .returned (.pointer (some ⟨gd, 0, none⟩)) ∧ m.pd = p ∧ DkIn w' w.heap.size gd m ∧ Fr NoBlk w w'
set_option maxRecDepth 100000 in
theorem empty_any (w : World) (r : Nat) (hr : r ≤ 1048576) : Calls Tryz.prog 25 #[.int .i64 r] w (NewPost w (pNew r)) := by
  have hmm := @run_makeMap Tryz.prog
  have HX : Hid (NewPost w (pNew r) (.returned (.pointer (some ⟨w.heap.size + 1, 0, none⟩))) ((w.alloc (.map #[] 0)).alloc (.cells #[.int .i64 r, .map (some w.heap.size), .int .i64 (-1), .bool false] 105))) := by
    have hsz : (w.alloc (.map #[] 0)).heap.size = w.heap.size + 1 := by simp
    have hb := Bk.new (w.alloc (.map #[] 0)) 105 #[.int .i64 r, .map (some w.heap.size), .int .i64 (-1), .bool false]
    rw [hsz] at hb
    refine ⟨_, ⟨r, w.heap.size, -1, false, []⟩, rfl, rfl, ⟨hb, ?_, (fun f hf => by cases hf), List.Pairwise.nil, by omega, Nat.le_refl _, Nat.zero_le _, hr, Nat.zero_le _, by show _ ≤ (-1 : Int) ∧ (-1 : Int) ≤ _; omega⟩, ((Fr.refl _ _).alloc _).alloc _⟩
    exact (Mp.new w).fr ((Fr.refl NoBlk _).alloc _) (fun h => h)
  go_enter Tryz.func25, Tryz.ntmps25
  go_wp2_with fail
  go_ret
  exact HX.out
set_option maxRecDepth 100000 in
theorem new_any (w : World) (r : Nat) (h1 : 1 ≤ r) (hr : r ≤ 1048576) : Calls Tryz.prog 8 #[.int .i64 r] w fun e w' => ∃ gd m, e = .returned (.tuple #[.pointer (some ⟨gd, 0, none⟩), .int .i64 0]) ∧ m.pd = pNew r ∧ DkIn w' w.heap.size gd m ∧ Fr NoBlk w w' := by
  go_enter Tryz.func8, Tryz.ntmps8
  go_wp2_with fail
  refine (empty_any w r hr).mono ?_
  rintro e w1 ⟨gd, m, rfl, hm, hd, hf⟩
  have HM := Lib.hid hm
  have HD := Lib.hid hd
  have HF := Lib.hid hf
  clear hm hd hf
  go_wp2_with fail
  go_ret2
  exact ⟨gd, m, rfl, HM.out, HD.out, HF.out⟩
end Go.Proofs.YtafiokabnlmgpaaGreatDoor
