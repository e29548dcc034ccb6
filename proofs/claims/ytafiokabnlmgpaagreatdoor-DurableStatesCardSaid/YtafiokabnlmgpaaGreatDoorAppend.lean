/- The disk's Append. Condition: lengths. -/
import Derived.Test.YtafiokabnlmgpaaGreatDoorGrow
import Derived.Test.YtafiokabnlmgpaaGreatDoorApp
namespace Go.Proofs.YtafiokabnlmgpaaGreatDoor
open Go.RowKit Go.Maps

/-- what a call leaves: the disk is as the document has it; nothing else that was there has turned. -/
def DkPost (w : World) (B gd : Nat) (m : Dsk) (r : PD × Int) (e : Ending) (w' : World) : Prop :=
  ∃ m', e = .returned (.int .i64 r.2) ∧ m'.pd = r.1 ∧ DkIn w' B gd m' ∧ Fr (Blks gd m) w w' ∧ ∀ k, Blks gd m' k → Blks gd m k ∨ w.heap.size ≤ k
theorem DkPost.same {w w' : World} {B gd : Nat} {m : Dsk} {c : Int} (h : DkIn w B gd m) (hf : Fr NoBlk w w') : DkPost w B gd m (m.pd, c) (.returned (.int .i64 c)) w' :=
  ⟨m, rfl, rfl, h.nofr hf, hf.mono fun _ _ h => h.elim, fun _ hk => .inl hk⟩
theorem spent_pd (m : Dsk) : (spent m).pd = pspend m.pd := by
  unfold spent pspend Dsk.pd
  dsimp only
  split
  · rfl
  · split <;> rfl
theorem spendE_pd (m : Dsk) : spendE m = pspendE m.pd := rfl
theorem spent_blks (gd : Nat) (m : Dsk) (k : Nat) : Blks gd (spent m) k ↔ Blks gd m k := by
  unfold spent Blks
  split
  · rfl
  · split <;> rfl
theorem Rd.notMap {w : World} {A : Option Addr} {xs : List Value} {bm : Nat} {fs : Fs} (h : Rd w A xs) (hm : Mp w bm fs) (hp : 0 < xs.length) : ∀ k, ablk A k → k ≠ bm := by
  rintro k ⟨b, e, rfl⟩ rfl
  obtain ⟨b', o, e', hc⟩ := h hp
  rw [e] at e'
  injection e' with e'
  subst e'
  have h0 := hc 0 _ (List.getElem?_eq_getElem hp)
  obtain ⟨es, clock, hb, _⟩ := hm
  unfold World.cell? at h0
  rw [hb] at h0
  simp at h0
theorem find_mem {L : List Fil} {k : Bs} {f : Fil} (h : L.find? (fun f => decide (f.name = k)) = some f) : f ∈ L ∧ f.name = k :=
  ⟨List.mem_of_find?_eq_some h, by simpa using List.find?_some h⟩

set_option maxRecDepth 100000 in
set_option maxHeartbeats 4000000 in
theorem append_any (w : World) (B gd : Nat) (m : Dsk) (h : DkIn w B gd m) (k : Bs) (hk : k.length ≤ maxLen) (A : Option Addr) (n c : Nat) (d : Bs) (hn : n = d.length) (hr : Rd w A (cb d)) (hA : A = none → c = 0) (hd : d.length ≤ maxLen) :
    Calls Tryz.prog 94 #[.pointer (some ⟨gd, 0, none⟩), .string (bstr k), .slice A n c] w (DkPost w B gd m (pAppend m.pd k d)) := by
  subst hn
  obtain ⟨i0, hi, iz0, iz1, iz2⟩ := info_parts byteInfo
  obtain ⟨c0, c1, c2, c3⟩ := h.cell
  have hlook := h.mp.look k hk
  have hlen := h.mp.len 3
  rw [look_find] at hlook
  have HD := Lib.hid h
  have HR := Lib.hid hr
  have HA := Lib.hid hA
  have hmost := h.most
  have hfits := h.fits
  have hfl : (fsOf m.files).length = m.files.length := by unfold fsOf; rw [List.length_map]
  rw [hfl] at hlen
  have HFL := Lib.hid hfl
  have hBw : B ≤ w.heap.size := Nat.le_trans h.bd (Nat.le_of_lt h.bk.lt)
  have hgl := h.bk.lt
  have HK := Lib.hid (isName_any w k hk)
  have HU := Lib.hid fun W (hf : Fr NoBlk w W) => used_any W B gd m (h.nofr hf)
  have HKL := Lib.hid hk
  unfold maxLen at hd
  clear h hr hA hfl hk
  obtain ⟨r, hrr⟩ : ∃ r, r = pAppend m.pd k d := ⟨_, rfl⟩
  rw [← hrr]
  have HP := Lib.hid hrr
  clear hrr
  cases hdn : m.down with
  | true =>
    rw [hdn] at c3
    have HQ : Hid (r = (m.pd, 3)) := by show _ = _; rw [HP.out]; unfold pAppend; rw [if_pos (show m.pd.down = true from hdn)]
    clear hdn
    go_enter Tryz.func94, Tryz.ntmps94
    go_wp2_with fail
    go_ret
    rw [HQ.out]
    exact DkPost.same HD.out (Fr.refl _ _)
  | false =>
  rw [hdn] at c3
  have HP := Lib.hid (HP.out.trans (by unfold pAppend; rw [if_neg (show ¬ m.pd.down = true by rw [show m.pd.down = m.down from rfl, hdn]; simp)]))
  clear hdn
  cases hnm : isNm k with
  | false =>
    have HQ : Hid (r = (m.pd, 1)) := by show _ = _; rw [HP.out, if_pos hnm]
    rw [hnm] at HK
    clear hnm
    go_enter Tryz.func94, Tryz.ntmps94
    go_wp2_with fail
    refine HK.out.mono ?_
    rintro e w1 ⟨rfl, rfl⟩
    go_wp2_with fail
    go_ret
    rw [HQ.out]
    exact DkPost.same HD.out (Fr.refl _ _)
  | true =>
  have HP := Lib.hid (HP.out.trans (if_neg (by rw [hnm]; simp)))
  rw [hnm] at HK
  have HK16 : Hid (k.length ≤ 16) := by
    unfold isNm at hnm
    simp only [Bool.and_eq_true, decide_eq_true_eq] at hnm
    exact hnm.2
  clear hnm
  have e1 : IntKind.i64.wrap ((m.room : Int) - (total m.files : Int)) = (m.room : Int) - (total m.files : Int) := IntWalk.i64_in _ (by omega)
  cases ho : m.files.find? (fun f => decide (f.name = k)) with
  | none =>
    rw [ho] at hlook
    replace hlook : (Instr.lookup 103 (.map (some m.bm)) (.string (bstr k)) false).run Tryz.prog w = .ok (.pointer none) w := hlook
    have HPF : Hid (pfind m.pd.files k = none) := by show pfind (m.files.map Fil.pf) k = none; rw [pfind_map, ho]; rfl
    have HLN : Hid (look (fsOf m.files) k = none) := by show _ = _; rw [look_find, ho]; rfl
    clear ho
    by_cases h32 : 32 ≤ m.files.length
    · have HQ : Hid (r = (m.pd, 2)) := by show _ = _; rw [HP.out, if_pos (.inl ⟨HPF.out, by show 32 ≤ (m.files.map Fil.pf).length; rw [List.length_map]; exact h32⟩)]
      have h32' : (32 : Int) ≤ (m.files.length : Int) := by omega
      go_enter Tryz.func94, Tryz.ntmps94
      go_wp2_with fail
      refine HK.out.mono ?_
      rintro e w1 ⟨rfl, rfl⟩
      go_wp2_with fail
      go_ret
      rw [HQ.out]
      exact DkPost.same HD.out (Fr.refl _ _)
    have h32' : ¬ (32 : Int) ≤ (m.files.length : Int) := by omega
    go_enter Tryz.func94, Tryz.ntmps94
    go_wp2_with fail
    refine HK.out.mono ?_
    rintro e w1 ⟨rfl, rfl⟩
    go_wp2_with fail
    go_region_held3 (fun w' => w'.cell? ⟨gd, 0, none⟩ = some (.int .i64 (m.room : Int)))
      ((first | exact hS2 | exact c0))
      (first
        | (go_at_call 130
           refine (HU.out _ ?_).mono ?_
           first | exact Fr.refl _ _ | exact (Fr.refl _ _).drew
           rintro e w2 ⟨rfl, hf2⟩
           have HF2 : Hid (Fr NoBlk w w2) := (by first | exact hf2 | exact ((Fr.refl NoBlk w).drew).trans hf2)
           have hS2 : w2.cell? ⟨gd, 0, none⟩ = some (.int .i64 (m.room : Int)) := (HF2.out.cell (p := ⟨gd, 0, none⟩) hgl (fun h => h)).trans c0
           clear hf2))
    have HD2 := Lib.hid (HD.out.nofr HF2.out)
    clear hS2 e1
    by_cases hbig : (m.room : Int) - (total m.files : Int) < (d.length : Int)
    · have HQ : Hid (r = (m.pd, 2)) := by
        show _ = _
        rw [HP.out, if_pos (.inr (by show m.room < ptotal (m.files.map Fil.pf) + d.length; rw [ptotal_map]; omega))]
      go_wp2_with fail
      go_ret
      rw [HQ.out]
      exact DkPost.same HD.out HF2.out
    have HP := Lib.hid (HP.out.trans (if_neg (by
      rintro (⟨_, e⟩ | e)
      · have e : 32 ≤ (m.files.map Fil.pf).length := e
        rw [List.length_map] at e
        omega
      · have e : m.room < ptotal (m.files.map Fil.pf) + d.length := e
        rw [ptotal_map] at e
        omega)))
    have HM2 := Lib.hid (HD2.out.mp.fr ((Fr.refl NoBlk w2).alloc (.cells #[.slice none 0 0, .int .i64 0] 168)) (fun h => h))
    obtain ⟨w3, hrun, hmp3, hf3⟩ := HM2.out.put k HKL.out (by rw [HFL.out]; omega) w2.heap.size
    have c1' : w2.cell? ⟨gd, 1, none⟩ = some (.map (some m.bm)) := HD2.out.cell.2.1
    have HD3 := Lib.hid (HD2.out.insert HLN.out HK16.out (by omega) (by have := HF2.out.size; omega) hmp3 hf3)
    have hfb : Fr (fun j => j = m.bm) w2 w3 := ((Fr.refl (fun j => j = m.bm) w2).alloc _).trans hf3
    have HFR : Hid (Fr (Blks gd m) w w3) := (HF2.out.mono (D := Blks gd m) fun _ _ h => h.elim).trans (hfb.mono fun _ _ e => .inr (.inl e))
    have HRD : Hid (Rd w3 A (cb d)) := ((HR.out.nofr HF2.out).fr' hfb fun hp => (HR.out.nofr HF2.out).notMap HD2.out.mp hp)
    obtain ⟨f1, hf1⟩ : ∃ f1 : Fil, f1 = ⟨k, w2.heap.size, none, 0, [], 0⟩ := ⟨_, rfl⟩
    obtain ⟨m1, hm1⟩ : ∃ m1 : Dsk, m1 = { m with files := insFil f1 m.files } := ⟨_, rfl⟩
    rw [← hf1, ← hm1] at HD3
    have hmem : f1 ∈ m1.files := by rw [hm1]; exact (insFil_perm f1 m.files).mem_iff.2 (List.mem_cons_self ..)
    have HBL : Hid (∀ j, Blks gd m1 j → Blks gd m j ∨ w.heap.size ≤ j) := by
      intro j hj
      rw [hm1] at hj
      rcases hj with e | e | ⟨f, hf, hj⟩
      · exact .inl (.inl e)
      · exact .inl (.inr (.inl e))
      · rcases List.mem_cons.1 ((insFil_perm f1 m.files).mem_iff.1 hf) with rfl | hf
        · right
          rcases hj with e | e
          · rw [hf1] at e
            have e : j = w2.heap.size := e
            have := HF2.out.size
            omega
          · rw [hf1] at e
            simp [Fil.sl, Value.ownBlock] at e
        · exact .inl (.inr (.inr ⟨f, hf, hj⟩))
    have HPUT : Hid (∀ h : PF → PF, pset (m1.files.map Fil.pf) k h = pset (match pfind m.pd.files k with | some _ => m.pd.files | none => pins ⟨k, [], 0⟩ m.pd.files) k h) := by
      intro h
      rw [HPF.out]
      show _ = pset (pins ⟨k, [], 0⟩ (m.files.map Fil.pf)) k h
      rw [hm1, hf1]
      show pset ((insFil _ m.files).map Fil.pf) k h = _
      rw [pins_map]
      rfl
    have HNM : Hid (f1.name = k) := by show _ = _; rw [hf1]
    have HM1 : Hid (m1.room = m.room ∧ m1.left = m.left ∧ m1.down = m.down ∧ total m1.files = total m.files) := by
      show _ ∧ _
      rw [hm1]
      refine ⟨rfl, rfl, rfl, ?_⟩
      show total (insFil f1 m.files) = _
      rw [total_perm (insFil_perm f1 m.files), hf1]
      simp [total]
    have hblk : f1.blk = w2.heap.size := by rw [hf1]
    have hblk' : w2.heap.size = f1.blk := hblk.symm
    rw [hblk'] at hrun
    have hgl2 : gd < w2.heap.size := by have := HF2.out.size; omega
    have hgl3 : gd < f1.blk := by omega
    have hgl4 : gd ≠ f1.blk := by omega
    clear hblk hf1 hm1 hmp3 hf3 hfb hlook hlen c0 c1 c2 c3
    have HFI := Lib.hid (HD3.out.fil f1 hmem)
    have HMM := Lib.hid hmem
    have hft := total_mem hmem
    have hm1t : total m1.files = total m.files := HM1.out.2.2.2
    rw [hm1t] at hft
    have hfx : total m.files + d.length ≤ m.room := by omega
    have d0 : w3.cell? ⟨f1.blk, 0, none⟩ = some (.slice f1.A f1.data.length f1.cap) := HFI.out.bk.cell 0
    have HOW : Hid (w3.ownsRow B 5 1 (.slice f1.A f1.data.length f1.cap) f1.data.length (cb f1.data)) := HFI.out.own
    have hB3 : B ≤ w3.heap.size := by have := HFR.out.size; omega
    clear hm1t hmem
    go_wp2_with (at_builtin; refine wpList_app rfl _ _ 55 rfl B 5 i0 (.int .u8 0) 1 Tryz.underlying55 hi iz0 iz1 iz2 rfl _ _ _ rfl HOW.out A c d.length (cb d) rfl (cb_length d) HRD.out (cb_one _) HA.out (by unfold maxLen; omega) (by omega) hB3 ?_)
    intro v5 w5 ho5 hg5 _ hb5
    obtain ⟨A5, c5, rfl, _, _⟩ := own_form ho5
    have hf35 : Fr (fun j => some j = (Value.slice f1.A f1.data.length f1.cap).ownBlock) w3 w5 := Fr.ofGrown hg5
    have hbk5 : Bk w5 f1.blk 168 #[.slice f1.A f1.data.length f1.cap, .int .i64 f1.lasts] := HFI.out.bk.fr hf35 (fun e => own_apart HFI.out.own HFI.out.bk (by decide) e.symm)
    have d5 : w5.cell? ⟨f1.blk, 0, none⟩ = some (.slice f1.A f1.data.length f1.cap) := hbk5.cell 0
    have g5 := hbk5.free 0
    obtain ⟨x, hx⟩ : ∃ x : Fil, x = ⟨f1.name, f1.blk, A5, c5, f1.data ++ d, f1.lasts⟩ := ⟨_, rfl⟩
    have hdl : f1.data.length + d.length = (f1.data ++ d).length := by rw [List.length_append]
    have HD6 : Hid (DkIn (w5.setCell ⟨f1.blk, 0, none⟩ (.slice A5 (f1.data.length + d.length) c5)) B gd { m1 with files := setFil m1.files f1.name x } ∧ Fr (fun j => j = f1.blk ∨ f1.sl.ownBlock = some j) w3 (w5.setCell ⟨f1.blk, 0, none⟩ (.slice A5 (f1.data.length + d.length) c5)) ∧ (x.sl.ownBlock = f1.sl.ownBlock ∨ x.sl.ownBlock = some w3.heap.size)) := by
      have hfr : Fr (fun j => j = f1.blk ∨ f1.sl.ownBlock = some j) w3 (w5.setCell ⟨f1.blk, 0, none⟩ (.slice A5 (f1.data.length + d.length) c5)) := (hf35.mono (D := fun j => j = f1.blk ∨ f1.sl.ownBlock = some j) fun _ _ e => .inr e.symm).setCell (p := ⟨f1.blk, 0, none⟩) (fun _ => .inl rfl) _
      have hxb : x.sl.ownBlock = f1.sl.ownBlock ∨ x.sl.ownBlock = some w3.heap.size := by
        rw [hx]
        show (Value.slice A5 (f1.data ++ d).length c5).ownBlock = (Value.slice f1.A f1.data.length f1.cap).ownBlock ∨ (Value.slice A5 (f1.data ++ d).length c5).ownBlock = _
        rw [← hdl]
        exact hb5
      refine ⟨HD3.out.turn HMM.out (by rw [hx]) (by rw [hx]) hfr ?_ ?_ ?_, hfr, hxb⟩
      · have hb6 := hbk5.put 0 (.slice A5 (f1.data.length + d.length) c5)
        have hne : ∀ j, (Value.slice A5 (f1.data.length + d.length) c5).ownBlock = some j → j ≠ f1.blk := fun j hj e => own_apart ho5 hbk5 (by decide) (e ▸ hj)
        have ho6 := own_fr ho5 ((Fr.refl (fun j => j = f1.blk) w5).setCell (p := ⟨f1.blk, 0, none⟩) (fun _ => rfl) (.slice A5 (f1.data.length + d.length) c5)) hne
        rw [hx]
        refine ⟨?_, ?_, HFI.out.base, ?_, HFI.out.nm⟩
        · show Bk _ f1.blk _ #[.slice A5 (f1.data ++ d).length c5, .int .i64 f1.lasts]
          rw [← hdl]
          exact hb6
        · show World.ownsRow _ _ _ _ (.slice A5 (f1.data ++ d).length c5) (f1.data ++ d).length (cb (f1.data ++ d))
          rw [← hdl, cb_append]
          exact ho6
        · show f1.lasts ≤ (f1.data ++ d).length
          have := HFI.out.lasts
          omega
      · rcases hxb with e | e
        · exact .inl e
        · exact .inr (.inr ⟨_, e, Nat.le_refl _⟩)
      · have e : x.data = f1.data ++ d := by rw [hx]
        have h1 := HM1.out.1
        have h4 := HM1.out.2.2.2
        rw [e, List.length_append]
        omega
    have HX := Lib.hid hx
    clear ho5 hg5 hb5 hf35 hbk5 hx hdl d0
    go_wp2_with fail
    refine (spend_any _ B gd _ HD6.out.1).mono ?_
    rintro e w7 ⟨rfl, hd7, hf7⟩
    have HD7 := Lib.hid hd7
    have HF7 := Lib.hid hf7
    clear hd7 hf7
    go_wp2_with fail
    go_ret
    refine ⟨_, ?_, ?_, HD7.out, ?_, ?_⟩
    · rw [HP.out]
      show Ending.returned (.int .i64 (spendE _)) = Ending.returned (.int .i64 (pspendE _))
      rw [spendE_pd]
      unfold pspendE Dsk.pd
      dsimp only
      rw [HM1.out.2.1]
    · rw [HP.out, spent_pd]
      show pspend _ = pspend _
      congr 1
      unfold Dsk.pd
      dsimp only
      rw [HM1.out.1, HM1.out.2.1, HM1.out.2.2.1]
      congr 1
      rw [pset_map HD3.out.nodup HMM.out (fun g => { g with data := g.data ++ d }) (by rw [HX.out]; rfl), HNM.out, HPUT.out]
      rfl
    · refine (HFR.out.step HD6.out.2.1 fun i hi e => ?_).step HF7.out fun i _ e => .inl e
      have := HBL.out i (.inr (.inr ⟨f1, HMM.out, e⟩))
      rcases this with h | h
      · exact h
      · omega
    · intro j hj
      rw [spent_blks] at hj
      rcases hj with e | e | ⟨f, hf, hj⟩
      · exact .inl (.inl e)
      · exact HBL.out j (.inr (.inl e))
      · rcases mem_set hf with rfl | ⟨hf, _⟩
        · rcases hj with e | e
          · refine HBL.out j (.inr (.inr ⟨f1, HMM.out, .inl ?_⟩))
            rw [e, HX.out]
          · rcases HD6.out.2.2 with h | h
            · rw [h] at e
              exact HBL.out j (.inr (.inr ⟨f1, HMM.out, .inr e⟩))
            · rw [h] at e
              injection e with e
              have := HFR.out.size
              exact .inr (by omega)
        · exact HBL.out j (.inr (.inr ⟨f, hf, hj⟩))
  | some f1 =>
    rw [ho] at hlook
    obtain ⟨hmem, hnm⟩ := find_mem ho
    replace hlook : (Instr.lookup 103 (.map (some m.bm)) (.string (bstr k)) false).run Tryz.prog w = .ok (.pointer (some ⟨f1.blk, 0, none⟩)) w := hlook
    have HPF : Hid (pfind m.pd.files k = some f1.pf) := by show pfind (m.files.map Fil.pf) k = _; rw [pfind_map, ho]; rfl
    have HNM : Hid (f1.name = k) := hnm
    have HMEM := Lib.hid hmem
    clear ho hnm hmem
    go_enter Tryz.func94, Tryz.ntmps94
    go_wp2_with fail
    refine HK.out.mono ?_
    rintro e w1 ⟨rfl, rfl⟩
    go_wp2_with fail
    go_region_held3 (fun w' => w'.cell? ⟨gd, 0, none⟩ = some (.int .i64 (m.room : Int)))
      ((first | exact hS2 | exact c0))
      (first
        | (go_at_call 130
           refine (HU.out _ ?_).mono ?_
           first | exact Fr.refl _ _ | exact (Fr.refl _ _).drew
           rintro e w2 ⟨rfl, hf2⟩
           have HF2 : Hid (Fr NoBlk w w2) := (by first | exact hf2 | exact ((Fr.refl NoBlk w).drew).trans hf2)
           have hS2 : w2.cell? ⟨gd, 0, none⟩ = some (.int .i64 (m.room : Int)) := (HF2.out.cell (p := ⟨gd, 0, none⟩) hgl (fun h => h)).trans c0
           clear hf2))
    have HD2 := Lib.hid (HD.out.nofr HF2.out)
    clear hS2 e1
    by_cases hbig : (m.room : Int) - (total m.files : Int) < (d.length : Int)
    · have HQ : Hid (r = (m.pd, 2)) := by
        show _ = _
        rw [HP.out, if_pos (.inr (by show m.room < ptotal (m.files.map Fil.pf) + d.length; rw [ptotal_map]; omega))]
      go_wp2_with fail
      go_ret
      rw [HQ.out]
      exact DkPost.same HD.out HF2.out
    have HP := Lib.hid (HP.out.trans (if_neg (by
      rintro (⟨e, _⟩ | e)
      · rw [HPF.out] at e; cases e
      · have e : m.room < ptotal (m.files.map Fil.pf) + d.length := e
        rw [ptotal_map] at e
        omega)))
    obtain ⟨w3, hw3⟩ : ∃ w3, w3 = w2 := ⟨_, rfl⟩
    obtain ⟨m1, hm1⟩ : ∃ m1, m1 = m := ⟨_, rfl⟩
    have HD3 := HD2
    have HFR : Hid (Fr (Blks gd m) w w3) := by show Fr _ _ _; rw [hw3]; exact HF2.out.mono fun _ _ h => h.elim
    have HRD : Hid (Rd w3 A (cb d)) := by show Rd _ _ _; rw [hw3]; exact HR.out.nofr HF2.out
    have HBL : Hid (∀ j, Blks gd m1 j → Blks gd m j ∨ w.heap.size ≤ j) := by intro j hj; rw [hm1] at hj; exact .inl hj
    have HPUT : Hid (∀ h : PF → PF, pset (m1.files.map Fil.pf) k h = pset (match pfind m.pd.files k with | some _ => m.pd.files | none => pins ⟨k, [], 0⟩ m.pd.files) k h) := by
      intro h
      rw [HPF.out, hm1]
      rfl
    have HM1 : Hid (m1.room = m.room ∧ m1.left = m.left ∧ m1.down = m.down ∧ total m1.files = total m.files) := by
      show _ ∧ _
      rw [hm1]
      exact ⟨rfl, rfl, rfl, rfl⟩
    rw [← hw3, ← hm1] at HD3
    have hmem : f1 ∈ m1.files := by rw [hm1]; exact HMEM.out
    have HW3 := Lib.hid hw3
    rw [← HW3.out]
    clear hm1 hw3 hlook hlen c0 c1 c2 c3
    have HFI := Lib.hid (HD3.out.fil f1 hmem)
    have HMM := Lib.hid hmem
    have hft := total_mem hmem
    have hm1t : total m1.files = total m.files := HM1.out.2.2.2
    rw [hm1t] at hft
    have hfx : total m.files + d.length ≤ m.room := by omega
    have d0 : w3.cell? ⟨f1.blk, 0, none⟩ = some (.slice f1.A f1.data.length f1.cap) := HFI.out.bk.cell 0
    have HOW : Hid (w3.ownsRow B 5 1 (.slice f1.A f1.data.length f1.cap) f1.data.length (cb f1.data)) := HFI.out.own
    have hB3 : B ≤ w3.heap.size := by have := HFR.out.size; omega
    clear hm1t hmem
    go_wp2_with (at_builtin; refine wpList_app rfl _ _ 55 rfl B 5 i0 (.int .u8 0) 1 Tryz.underlying55 hi iz0 iz1 iz2 rfl _ _ _ rfl HOW.out A c d.length (cb d) rfl (cb_length d) HRD.out (cb_one _) HA.out (by unfold maxLen; omega) (by omega) hB3 ?_)
    intro v5 w5 ho5 hg5 _ hb5
    obtain ⟨A5, c5, rfl, _, _⟩ := own_form ho5
    have hf35 : Fr (fun j => some j = (Value.slice f1.A f1.data.length f1.cap).ownBlock) w3 w5 := Fr.ofGrown hg5
    have hbk5 : Bk w5 f1.blk 168 #[.slice f1.A f1.data.length f1.cap, .int .i64 f1.lasts] := HFI.out.bk.fr hf35 (fun e => own_apart HFI.out.own HFI.out.bk (by decide) e.symm)
    have d5 : w5.cell? ⟨f1.blk, 0, none⟩ = some (.slice f1.A f1.data.length f1.cap) := hbk5.cell 0
    have g5 := hbk5.free 0
    obtain ⟨x, hx⟩ : ∃ x : Fil, x = ⟨f1.name, f1.blk, A5, c5, f1.data ++ d, f1.lasts⟩ := ⟨_, rfl⟩
    have hdl : f1.data.length + d.length = (f1.data ++ d).length := by rw [List.length_append]
    have HD6 : Hid (DkIn (w5.setCell ⟨f1.blk, 0, none⟩ (.slice A5 (f1.data.length + d.length) c5)) B gd { m1 with files := setFil m1.files f1.name x } ∧ Fr (fun j => j = f1.blk ∨ f1.sl.ownBlock = some j) w3 (w5.setCell ⟨f1.blk, 0, none⟩ (.slice A5 (f1.data.length + d.length) c5)) ∧ (x.sl.ownBlock = f1.sl.ownBlock ∨ x.sl.ownBlock = some w3.heap.size)) := by
      have hfr : Fr (fun j => j = f1.blk ∨ f1.sl.ownBlock = some j) w3 (w5.setCell ⟨f1.blk, 0, none⟩ (.slice A5 (f1.data.length + d.length) c5)) := (hf35.mono (D := fun j => j = f1.blk ∨ f1.sl.ownBlock = some j) fun _ _ e => .inr e.symm).setCell (p := ⟨f1.blk, 0, none⟩) (fun _ => .inl rfl) _
      have hxb : x.sl.ownBlock = f1.sl.ownBlock ∨ x.sl.ownBlock = some w3.heap.size := by
        rw [hx]
        show (Value.slice A5 (f1.data ++ d).length c5).ownBlock = (Value.slice f1.A f1.data.length f1.cap).ownBlock ∨ (Value.slice A5 (f1.data ++ d).length c5).ownBlock = _
        rw [← hdl]
        exact hb5
      refine ⟨HD3.out.turn HMM.out (by rw [hx]) (by rw [hx]) hfr ?_ ?_ ?_, hfr, hxb⟩
      · have hb6 := hbk5.put 0 (.slice A5 (f1.data.length + d.length) c5)
        have hne : ∀ j, (Value.slice A5 (f1.data.length + d.length) c5).ownBlock = some j → j ≠ f1.blk := fun j hj e => own_apart ho5 hbk5 (by decide) (e ▸ hj)
        have ho6 := own_fr ho5 ((Fr.refl (fun j => j = f1.blk) w5).setCell (p := ⟨f1.blk, 0, none⟩) (fun _ => rfl) (.slice A5 (f1.data.length + d.length) c5)) hne
        rw [hx]
        refine ⟨?_, ?_, HFI.out.base, ?_, HFI.out.nm⟩
        · show Bk _ f1.blk _ #[.slice A5 (f1.data ++ d).length c5, .int .i64 f1.lasts]
          rw [← hdl]
          exact hb6
        · show World.ownsRow _ _ _ _ (.slice A5 (f1.data ++ d).length c5) (f1.data ++ d).length (cb (f1.data ++ d))
          rw [← hdl, cb_append]
          exact ho6
        · show f1.lasts ≤ (f1.data ++ d).length
          have := HFI.out.lasts
          omega
      · rcases hxb with e | e
        · exact .inl e
        · exact .inr (.inr ⟨_, e, Nat.le_refl _⟩)
      · have e : x.data = f1.data ++ d := by rw [hx]
        have h1 := HM1.out.1
        have h4 := HM1.out.2.2.2
        rw [e, List.length_append]
        omega
    have HX := Lib.hid hx
    clear ho5 hg5 hb5 hf35 hbk5 hx hdl d0
    go_wp2_with fail
    refine (spend_any _ B gd _ HD6.out.1).mono ?_
    rintro e w7 ⟨rfl, hd7, hf7⟩
    have HD7 := Lib.hid hd7
    have HF7 := Lib.hid hf7
    clear hd7 hf7
    go_wp2_with fail
    go_ret
    refine ⟨_, ?_, ?_, HD7.out, ?_, ?_⟩
    · rw [HP.out]
      show Ending.returned (.int .i64 (spendE _)) = Ending.returned (.int .i64 (pspendE _))
      rw [spendE_pd]
      unfold pspendE Dsk.pd
      dsimp only
      rw [HM1.out.2.1]
    · rw [HP.out, spent_pd]
      show pspend _ = pspend _
      congr 1
      unfold Dsk.pd
      dsimp only
      rw [HM1.out.1, HM1.out.2.1, HM1.out.2.2.1]
      congr 1
      rw [pset_map HD3.out.nodup HMM.out (fun g => { g with data := g.data ++ d }) (by rw [HX.out]; rfl), HNM.out, HPUT.out]
      rfl
    · refine (HFR.out.step HD6.out.2.1 fun i hi e => ?_).step HF7.out fun i _ e => .inl e
      have := HBL.out i (.inr (.inr ⟨f1, HMM.out, e⟩))
      rcases this with h | h
      · exact h
      · omega
    · intro j hj
      rw [spent_blks] at hj
      rcases hj with e | e | ⟨f, hf, hj⟩
      · exact .inl (.inl e)
      · exact HBL.out j (.inr (.inl e))
      · rcases mem_set hf with rfl | ⟨hf, _⟩
        · rcases hj with e | e
          · refine HBL.out j (.inr (.inr ⟨f1, HMM.out, .inl ?_⟩))
            rw [e, HX.out]
          · rcases HD6.out.2.2 with h | h
            · rw [h] at e
              exact HBL.out j (.inr (.inr ⟨f1, HMM.out, .inr e⟩))
            · rw [h] at e
              injection e with e
              have := HFR.out.size
              exact .inr (by omega)
        · exact HBL.out j (.inr (.inr ⟨f, hf, hj⟩))
end Go.Proofs.YtafiokabnlmgpaaGreatDoor
