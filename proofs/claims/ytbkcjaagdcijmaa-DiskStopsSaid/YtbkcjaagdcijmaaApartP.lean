/- Three disks beside each other, one of them written to; and what a name's file is before and behind a crash. Conditions: lengths. -/
import Derived.Test.YtbkcjaagdcijmaaTwiceP
namespace Go.Proofs.Ytbkcjaagdcijmaa
open Go.RowKit

theorem pset_names (L : List PF) (k : Bs) (h : PF → PF) (hh : ∀ g, (h g).name = g.name) : (pset L k h).map (·.name) = L.map (·.name) := by
  unfold pset
  rw [List.map_map]
  apply List.map_congr_left
  intro g _
  show (if g.name = k then h g else g).name = g.name
  split
  · exact hh g
  · rfl
theorem spend_files (p : PD) : (pspend p).files = p.files := by
  unfold pspend
  split
  · rfl
  · split <;> rfl
theorem append_names (p : PD) (k d : Bs) (h : k ∈ p.files.map (·.name)) : (pAppend p k d).1.files.map (·.name) = p.files.map (·.name) := by
  unfold pAppend
  split
  · rfl
  split
  · rfl
  split
  · rfl
  · obtain ⟨f, hf⟩ := find_named h
    show (pspend _).files.map _ = _
    rw [spend_files]
    show (pput p.files k d).map _ = _
    unfold pput
    rw [hf]
    exact pset_names _ _ _ fun _ => rfl
theorem sync_names (p : PD) (k : Bs) : (pSync p k).1.files.map (·.name) = p.files.map (·.name) := by
  unfold pSync pChange
  split
  · rfl
  split
  · rfl
  split
  · rfl
  split
  · show (pspend p).files.map _ = _
    rw [spend_files]
  · exact pset_names _ _ _ fun _ => rfl
/-- the power is on, and has no end. -/
def On (p : PD) : Prop := p.down = false ∧ p.left = -1
theorem spend_on {p : PD} (h : p.left = -1) : pspend p = p := by
  unfold pspend
  rw [if_neg (by omega), if_neg (by omega)]
theorem append_on {p : PD} (h : On p) (k d : Bs) : On (pAppend p k d).1 := by
  unfold pAppend
  split
  · exact h
  split
  · exact h
  split
  · exact h
  · have e : pspend { p with files := pput p.files k d } = _ := spend_on h.2
    show On (pspend { p with files := pput p.files k d })
    rw [e]
    exact h
theorem sync_on {p : PD} (h : On p) (k : Bs) : On (pSync p k).1 := by
  unfold pSync pChange
  split
  · exact h
  split
  · exact h
  split
  · exact h
  split
  · show On (pspend _)
    rw [spend_on h.2]
    exact h
  · show On ({ pspend p with files := _ } : PD)
    rw [spend_on h.2]
    exact h
theorem crashL_names (L : List PF) (a : List Int) : (pcrashL L a).map (·.name) = L.map (·.name) := by
  induction L generalizing a with
  | nil => rfl
  | cons f t ih =>
    show f.name :: (pcrashL t _).map _ = _
    rw [ih]
    rfl
theorem crashL_find (L : List PF) (h : ∀ f ∈ L, f.last ≤ f.data.length) (a : List Int) (k : Bs) (hk : k ∈ L.map (·.name)) :
    ∃ f m, pfind L k = some f ∧ m ≤ f.data.length ∧ ∃ g, pfind (pcrashL L a) k = some g ∧ g.data = f.data.take m := by
  induction L generalizing a with
  | nil => cases hk
  | cons f t ih =>
    by_cases e : f.name = k
    · refine ⟨f, pkeep f (a.headD 0), by simp [pfind, e], (keep_le (h f (List.mem_cons_self ..)) _).2, pcrashF f (a.headD 0), ?_, rfl⟩
      show pfind (pcrashF f _ :: pcrashL t _) k = _
      have e2 : (pcrashF f (a.headD 0)).name = k := e
      unfold pfind
      rw [if_pos e2]
    · rcases List.mem_cons.1 hk with h1 | h1
      · exact absurd h1.symm e
      · obtain ⟨f', m, h2, h3, g, h4, h5⟩ := ih (fun g hg => h g (List.mem_cons_of_mem _ hg)) a.tail h1
        refine ⟨f', m, by unfold pfind; rw [if_neg e]; exact h2, h3, g, ?_, h5⟩
        show pfind (pcrashF f _ :: pcrashL t _) k = _
        have e2 : ¬ (pcrashF f (a.headD 0)).name = k := e
        unfold pfind
        rw [if_neg e2]
        exact h4
theorem apart_read (p : PD) (ho : On p) (h : ∀ f ∈ p.files, f.last ≤ f.data.length) (a : List Int) (k : Bs) (hk : k ∈ p.files.map (·.name)) :
    ∃ d m, m ≤ d.length ∧ pRead p k = (d, 0) ∧ pRead (pCrash p a) k = (d.take m, 0) := by
  obtain ⟨f, m, h2, h3, g, h4, h5⟩ := crashL_find p.files h a k hk
  refine ⟨f.data, m, h3, ?_, ?_⟩
  · unfold pRead
    rw [h2, ho.1]
    rfl
  · have h6 : pfind (pCrash p a).files k = some g := h4
    unfold pRead
    rw [h6, ← h5]
    rfl

/-- a disk that others may stand beside: its blocks are told. -/
structure DkB (w wr : World) (gd : Nat) (p : PD) (m : Dsk) (B : Nat) : Prop where
  pd : m.pd = p
  dk : DkIn wr B gd m
  le : w.heap.size ≤ B
theorem DkB.ats {w wr : World} {gd B : Nat} {p : PD} {m : Dsk} (h : DkB w wr gd p m B) (hf : Fr NoBlk w wr) : AtS w wr gd p NoS := ⟨B, m, h.pd, h.dk, hf, h.le, fun _ _ h => h.elim⟩
/-- d, y and x, and memory E beside them: what x does turns none of the others. -/
def Beside (w wr : World) (gd gy gx : Nat) (pd py px : PD) (E : Nat → Prop) : Prop :=
  ∃ md Bd my By, DkB w wr gd pd md Bd ∧ DkB w wr gy py my By ∧ AtS w wr gx px fun k => Blks gd md k ∨ Blks gy my k ∨ E k
section
variable {w wr w' : World} {gd gy gx : Nat} {pd py px : PD} {E E' : Nat → Prop}
theorem Beside.fr (h : Beside w wr gd gy gx pd py px E) : Fr NoBlk w wr := let ⟨_, _, _, _, _, _, h⟩ := h; h.fr
theorem Beside.d (h : Beside w wr gd gy gx pd py px E) : AtS w wr gd pd NoS := let ⟨_, _, _, _, h1, _, h3⟩ := h; h1.ats h3.fr
theorem Beside.y (h : Beside w wr gd gy gx pd py px E) : AtS w wr gy py NoS := let ⟨_, _, _, _, _, h2, h3⟩ := h; h2.ats h3.fr
theorem Beside.x (h : Beside w wr gd gy gx pd py px E) : AtS w wr gx px NoS := let ⟨_, _, _, _, _, _, h3⟩ := h; h3.prot (Fr.refl NoBlk _) (fun _ _ h => h.elim) fun _ h => h.elim
theorem Beside.more (h : Beside w wr gd gy gx pd py px E) (hf : Fr NoBlk wr w') (hE : ∀ k, E' k → E k ∨ wr.heap.size ≤ k) : Beside w w' gd gy gx pd py px E' := by
  obtain ⟨md, Bd, my, By, h1, h2, h3⟩ := h
  refine ⟨md, Bd, my, By, ⟨h1.pd, h1.dk.nofr hf, h1.le⟩, ⟨h2.pd, h2.dk.nofr hf, h2.le⟩, h3.prot hf (fun _ _ h => h.elim) fun k hk => ?_⟩
  rcases hk with h | h | h
  · exact .inl (.inl h)
  · exact .inl (.inr (.inl h))
  · exact (hE k h).elim (fun h => .inl (.inr (.inr h))) .inr
theorem Beside.nofr (h : Beside w wr gd gy gx pd py px E) (hf : Fr NoBlk wr w') : Beside w w' gd gy gx pd py px E := h.more hf fun _ h => .inl h
/-- what a call on x may turn. -/
def FarE (w : World) (E : Nat → Prop) : Nat → Prop := fun k => ¬ E k ∧ w.heap.size ≤ k
theorem beside_append (h : Beside w wr gd gy gx pd py px E) (hE : ∀ k, E k → k < wr.heap.size) (k : Bs) (hk : k.length ≤ maxLen) (A : Option Addr) (n c : Nat) (d : Bs) (hn : n = d.length) (hr : Rd wr A (cb d)) (hA : A = none → c = 0) (hd : d.length ≤ maxLen) :
    Calls Try.prog 18 #[.pointer (some ⟨gx, 0, none⟩), .string (bstr k), .slice A n c] wr fun e w' => e = .returned (.int .i64 (pAppend px k d).2) ∧ Beside w w' gd gy gx pd py (pAppend px k d).1 E ∧ Fr (FarE w E) wr w' := by
  obtain ⟨md, Bd, my, By, h1, h2, h3⟩ := h
  refine (appendS h3 (fun k hk => hk.elim (fun h => (h1.dk.blk h).2) fun h => h.elim (fun h => (h2.dk.blk h).2) (hE k)) k hk A n c d hn hr hA hd).mono fun e w' ⟨he, ha, hf⟩ => ⟨he, ⟨md, Bd, my, By, ⟨h1.pd, h1.dk.fr hf fun k hk hc => hc.1 (.inl hk), h1.le⟩, ⟨h2.pd, h2.dk.fr hf fun k hk hc => hc.1 (.inr (.inl hk)), h2.le⟩, ha⟩, hf.mono fun k _ hc => ⟨fun he => hc.1 (.inr (.inr he)), hc.2⟩⟩
theorem beside_sync (h : Beside w wr gd gy gx pd py px E) (hE : ∀ k, E k → k < wr.heap.size) (k : Bs) (hk : k.length ≤ maxLen) :
    Calls Try.prog 19 #[.pointer (some ⟨gx, 0, none⟩), .string (bstr k)] wr fun e w' => e = .returned (.int .i64 (pSync px k).2) ∧ Beside w w' gd gy gx pd py (pSync px k).1 E ∧ Fr (FarE w E) wr w' := by
  obtain ⟨md, Bd, my, By, h1, h2, h3⟩ := h
  refine (syncS h3 (fun k hk => hk.elim (fun h => (h1.dk.blk h).2) fun h => h.elim (fun h => (h2.dk.blk h).2) (hE k)) k hk).mono fun e w' ⟨he, ha, hf⟩ => ⟨he, ⟨md, Bd, my, By, ⟨h1.pd, h1.dk.fr hf fun k hk hc => hc.1 (.inl hk), h1.le⟩, ⟨h2.pd, h2.dk.fr hf fun k hk hc => hc.1 (.inr (.inl hk)), h2.le⟩, ha⟩, hf.mono fun k _ hc => ⟨fun he => hc.1 (.inr (.inr he)), hc.2⟩⟩
end
/-- a disk crashed twice over: the two and what they come from lie apart. -/
theorem Beside.start {w wr w1 w2 : World} {gd gx gy : Nat} {p px py : PD} (h : AtS w wr gd p NoS) (hx : ∀ S', (∀ k, S' k → k < wr.heap.size) → AtS w w1 gx px S') (f1 : Fr NoBlk wr w1)
    (hy : ∀ S', (∀ k, S' k → k < w1.heap.size) → AtS w w2 gy py S') (f2 : Fr NoBlk w1 w2) : Beside w w2 gd gy gx p py px NoS := by
  obtain ⟨B, m, hp, hd, hw, hB, _⟩ := h
  obtain ⟨Bx, mx, hpx, hdx, hwx, hBx, hsx⟩ := hx (fun k => Blks gd m k) fun k hk => (hd.blk hk).2
  obtain ⟨By, my, hpy, hdy, hwy, hBy, hsy⟩ := hy (fun k => Blks gx mx k) fun k hk => (hdx.blk hk).2
  refine ⟨m, B, my, By, ⟨hp, (hd.nofr f1).nofr f2, hB⟩, ⟨hpy, hdy, hBy⟩, Bx, mx, hpx, hdx.nofr f2, hwy, hBx, fun k hk hs => ?_⟩
  rcases hs with h | h | h
  · exact hsx k hk h
  · exact hsy k h hk
  · exact h

/-- the names, in new memory. -/
structure NewTexts (w w' : World) (A : Option Addr) (c : Nat) (ks : List Bs) : Prop where
  rd : Rd w' A (sts ks)
  le : ks.length ≤ c
  new : ∀ k, ablk A k → w.heap.size ≤ k
  lt : ∀ k, ablk A k → k < w'.heap.size
  fr : Fr NoBlk w w'
def NamesNew (w : World) (ks : List Bs) (e : Ending) (w' : World) : Prop := ∃ A c, e = .returned (.slice A ks.length c) ∧ NewTexts w w' A c ks
set_option maxRecDepth 100000 in
theorem names_new (w : World) (B gd : Nat) (m : Dsk) (h : DkIn w B gd m) : Calls Try.prog 22 #[.pointer (some ⟨gd, 0, none⟩)] w (NamesNew w (m.files.map (·.name))) := by
  obtain ⟨_, c1, _, _⟩ := h.cell
  have hf := h.few
  have HS := Lib.hid (sorted_any m.bm _ (mapD (fsOf m.files)) ptE w h.mp (by rw [mapD_size]; unfold maxLen fsOf; rw [List.length_map]; omega) (by rw [mapD_size]; unfold fsOf; rw [List.length_map]; omega))
  have HK := Lib.hid (mapsKeys_any (some m.bm) w)
  have HU := Lib.hid h.up
  clear h hf
  go_enter Try.func22, Try.ntmps22
  go_wp2_with fail
  refine HK.out.mono ?_
  rintro e w1 ⟨rfl, rfl⟩
  go_wp2_with fail
  refine HS.out.mono ?_
  rintro e w2 ⟨v, ss, rfl, hp, ho, hn, hb⟩
  obtain ⟨A, c, rfl, hc, hA⟩ := own_form ho
  have hss : ss.mergeSort (fun x y => decide (x ≤ y)) = m.files.map (·.name) := sorted_up (by rw [strKeys_mapD, fsOf_names] at hp; exact hp) HU.out
  have hl : ss.length = (m.files.map (·.name)).length := by
    have := congrArg List.length hss
    rwa [List.length_mergeSort] at this
  rw [hss, hl] at ho
  rw [hl] at hc
  have HT : Hid (NewTexts w w2 A c (m.files.map (·.name))) := ⟨Rd.of_own ho, hc, fun k hk => by
    obtain ⟨a, rfl, rfl⟩ := hk
    exact Nat.le_trans ((Fr.refl NoBlk w).alloc _).size (own_lt ho (k := a.block) rfl).1, fun k hk => by
    obtain ⟨a, rfl, rfl⟩ := hk
    exact (own_lt ho (k := a.block) rfl).2, ((Fr.refl NoBlk w).alloc _).trans (Fr.ofBelow hb)⟩
  have HL := Lib.hid hl
  clear ho hc hA hn hb hss hp hl
  rw [HL.out]
  go_wp2_with fail
  go_ret
  exact ⟨A, c, by rw [List.length_map]; rfl, HT.out⟩
theorem namesN {w wr : World} {gd : Nat} {p : PD} {S : Nat → Prop} (h : AtS w wr gd p S) :
    Calls Try.prog 22 #[.pointer (some ⟨gd, 0, none⟩)] wr (NamesNew wr (p.files.map (·.name))) := by
  obtain ⟨B, m, rfl, hdk, hw, hB, hs⟩ := h
  have e2 : m.pd.files.map (·.name) = m.files.map (·.name) := by
    show (m.files.map Fil.pf).map (·.name) = _
    rw [List.map_map]; rfl
  rw [e2]
  exact names_new wr B gd m hdk
theorem Got.blk {w w' : World} {m : Nat} {news : List Value} {A : Option Addr} {c : Nat} (h : Got w w' m news A c) (hm : m = news.length) (hp : 0 < m) : ∀ k, ablk A k → w.heap.size ≤ k ∧ k < w'.heap.size := fun k hk => by
  have h2 := h.rd.lt (by omega) hk
  obtain ⟨g, e, hg⟩ := h.new hp
  obtain ⟨b, e2, rfl⟩ := hk
  rw [e] at e2
  injection e2 with e2
  subst e2
  exact ⟨hg, h2⟩
theorem Rd.past {w wA wB : World} {E : Nat → Prop} {A : Option Addr} {xs : List Value} (h : Rd wA A xs) (hf : Fr (FarE w E) wA wB) (hE : 0 < xs.length → ∀ k, ablk A k → E k) : Rd wB A xs :=
  h.fr' hf fun h0 k hk hc => hc.1 (hE h0 k hk)
end Go.Proofs.Ytbkcjaagdcijmaa
