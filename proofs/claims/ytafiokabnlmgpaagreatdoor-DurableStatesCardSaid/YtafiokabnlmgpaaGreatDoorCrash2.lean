/- The disk's Crash. Condition: lengths. -/
import Derived.Test.YtafiokabnlmgpaaGreatDoorCrash
namespace Go.Proofs.YtafiokabnlmgpaaGreatDoor
open Go.RowKit Go.Maps

set_option maxRecDepth 100000 in
set_option maxHeartbeats 4000000 in
theorem crash_any (w : World) (B gd : Nat) (m : Dsk) (h : DkIn w B gd m) (K : Option Addr) (n c : Nat) (ks : List Int) (hn : n = ks.length) (hr : Rd w K (ics ks)) (hd : ks.length ≤ maxLen) :
    Calls Tryz.prog 17 #[.pointer (some ⟨gd, 0, none⟩), .slice K n c] w (NewPost w (pCrash m.pd ks)) := by
  subst hn
  unfold maxLen at hd
  have HD := Lib.hid h
  have HR := Lib.hid hr
  obtain ⟨c0, c1, _, _⟩ := h.cell
  have hmost := h.most
  have hgl := h.bk.lt
  have hfew := h.few
  clear h hr
  go_enter Tryz.func17, Tryz.ntmps17
  go_wp2_with fail
  refine (empty_any w m.room hmost).mono ?_
  rintro e w1 ⟨g2, m2, rfl, hp2, hd2, hf1⟩
  have HF1 := Lib.hid hf1
  have HD2 := Lib.hid hd2
  have HP2 := Lib.hid hp2
  clear hf1 hd2 hp2 c0
  go_wp2_with fail
  refine (names_any w1 B gd m (HD.out.nofr HF1.out)).mono ?_
  rintro e w2 ⟨A, cn, rfl, ht⟩
  have HT := Lib.hid ht
  have HF2 := Lib.hid (HF1.out.trans ht.fr)
  have HL0 : Hid (CrLoop w w2 m ks g2 m2.bm 0 []) := by
    have hd2 := HD2.out.nofr ht.fr
    obtain ⟨r2, b2, l2, dn2, fs2⟩ := m2
    have hp := HP2.out
    unfold Dsk.pd pNew at hp
    injection hp with h1 h2 h3 h4
    have h5 : fs2 = [] := List.map_eq_nil_iff.1 h4
    clear h4
    dsimp only at h1 h2 h3
    subst h1 h2 h3 h5
    exact ⟨hd2, rfl, Nat.le_refl _, HF1.out.trans ht.fr⟩
  have HNB : Hid (w.heap.size ≤ m2.bm) := HD2.out.bb
  generalize m2.bm = b2 at *
  have HRT := Lib.hid ht.rd
  clear ht HD2 HP2
  have hnl : (m.files.map (·.name)).length = m.files.length := List.length_map ..
  have HNL := Lib.hid hnl
  clear hnl
  go_wp2_with fail
  go_loopw [17] (fun z wr => ∃ (i : Nat) (L : List Fil), i ≤ m.files.length ∧ z = .int .i64 i ∧ Hid (CrLoop w wr m ks g2 b2 i L) ∧ Hid (Rd wr A (sts (m.files.map (·.name))))) (fun z _ => m.files.length - (intOf z).toNat)
  case atStart => exact ⟨0, [], by omega, rfl, HL0, HRT⟩
  case round =>
    clear HL0 HRT
    obtain ⟨i, L, hi, rfl, HH, HRT⟩ := hrel
    by_cases hlt : i < m.files.length
    · obtain ⟨f, hf⟩ : ∃ f, m.files[i]? = some f := ⟨_, List.getElem?_eq_getElem hlt⟩
      obtain ⟨b, o, rfl, hc⟩ := HRT.out.text (k := i) (by rw [HNL.out]; exact hlt)
      have hnm : (m.files.map (·.name)).getD i [] = f.name := by rw [List.getD_eq_getElem?_getD, List.getElem?_map, hf]; rfl
      rw [hnm] at hc
      have hmem := List.mem_of_getElem? hf
      have HDr := Lib.hid (HD.out.nofr HH.out.fr)
      have hfi := HDr.out.fil f hmem
      have hnl16 := hfi.nm
      have hfb : f.data.length ≤ 1048576 := by have := total_mem hmem; have := HD.out.fits; omega
      have d1 : wr.cell? ⟨g2, 1, none⟩ = some (.map (some b2)) := HH.out.dk.cell.2.1
      have c1r : wr.cell? ⟨gd, 1, none⟩ = some (.map (some m.bm)) := HDr.out.cell.2.1
      have hlook := HDr.out.mp.look f.name (by unfold maxLen; omega)
      rw [look_of HD.out.nodup hmem] at hlook
      replace hlook : (Instr.lookup 103 (.map (some m.bm)) (.string (bstr f.name)) false).run Tryz.prog wr = .ok (.pointer (some ⟨f.blk, 0, none⟩)) wr := hlook
      have hlookD := (HDr.out.nofr ((Fr.refl NoBlk wr).drew)).mp.look f.name (by unfold maxLen; omega)
      rw [look_of HD.out.nodup hmem] at hlookD
      replace hlookD : (Instr.lookup 103 (.map (some m.bm)) (.string (bstr f.name)) false).run Tryz.prog wr.drew = .ok (.pointer (some ⟨f.blk, 0, none⟩)) wr.drew := hlookD
      have HKC := Lib.hid fun W k (hf : Fr NoBlk wr W) => crashed_any W B f (hfi.fr hf (fun h => h) (fun _ _ h => h)) hfb k
      have HLL := Lib.hid (HH.out.names (by omega)).1
      have hgl2 : g2 < wr.heap.size := HH.out.dk.bk.lt
      have hglr : gd < wr.heap.size := HDr.out.bk.lt
      have HF := Lib.hid hf
      have i0' : (0 : Int) ≤ (i : Int) := by omega
      have i1' : (i : Int) < (m.files.length : Int) := by omega
      clear hf hnm hmem hfi hfb
      by_cases hki : i < ks.length
      · obtain ⟨kv, hkv⟩ : ∃ kv, kv = ks.getD i 0 := ⟨_, rfl⟩
        obtain ⟨kb, ko, hKe, hkc⟩ := (HR.out.nofr HH.out.fr).at_ (k := i) (v := .int .i64 kv) (by rw [hkv]; simp [ics, hki, List.getD_eq_getElem?_getD])
        subst hKe
        have k1' : (i : Int) < (ks.length : Int) := by omega
        have HKV : Hid (ks.getD i 0 = kv) := hkv.symm
        clear hkv
        go_wp2_with fail
        go_region_with
          (first
          | (go_at_call 38
             refine (HKC.out _ kv (by first | exact Fr.refl _ _ | exact (Fr.refl _ _).drew)).mono ?_
             rintro e w5 ⟨g5, A5, c5, rfl, hg5, hx5, hf5⟩
             have HF5 : Hid (Fr NoBlk wr w5) := (by first | exact hf5 | exact ((Fr.refl NoBlk wr).drew).trans hf5)
             rw [← HKV.out] at hx5
             have HX5 : Hid (FilIn w5 wr.heap.size ⟨f.name, g5, A5, c5, (pcrashF f.pf (ks.getD i 0)).data, (pcrashF f.pf (ks.getD i 0)).last⟩) := hx5
             obtain ⟨w6, hrun6, hmp6, hf6⟩ := (HH.out.dk.mp.fr HF5.out (fun h => h)).put f.name (by unfold maxLen; omega) (by unfold fsOf; rw [List.length_map]; have := HLL.out; show L.length ≤ 1000; omega) g5
             have HNX := Lib.hid (HH.out.next HD.out HF.out HX5.out HF5.out hmp6 hf6)
             have HRX : Hid (Rd w6 (some ⟨b, o, none⟩) (sts (m.files.map (·.name)))) := (HRT.out.nofr HF5.out).fr' hf6 fun hp => (HRT.out.nofr HF5.out).notMap (HH.out.dk.mp.fr HF5.out (fun h => h)) hp
             have d5 : w5.cell? ⟨g2, 1, none⟩ = some (.map (some b2)) := (HF5.out.cell (p := ⟨g2, 1, none⟩) hgl2 (fun h => h)).trans d1
             have d6 : w5.cell? ⟨gd, 1, none⟩ = some (.map (some m.bm)) := (HF5.out.cell (p := ⟨gd, 1, none⟩) hglr (fun h => h)).trans c1r
             clear hg5 hx5 hf5 hmp6 hf6))
        all_goals
          go_wp2_with fail
          go_roundw
          case rel => exact ⟨i + 1, _, by omega, by go_num, HNX, HRX⟩
          case measure => simp [intOf]; omega
      · have k1' : (ks.length : Int) ≤ (i : Int) := by omega
        have HKV : Hid (ks.getD i 0 = 0) := by show _ = _; rw [List.getD_eq_getElem?_getD, List.getElem?_eq_none (by omega)]; rfl
        go_wp2_with fail
        go_region_with
          (first
          | (go_at_call 38
             refine (HKC.out _ 0 (by first | exact Fr.refl _ _ | exact (Fr.refl _ _).drew)).mono ?_
             rintro e w5 ⟨g5, A5, c5, rfl, hg5, hx5, hf5⟩
             have HF5 : Hid (Fr NoBlk wr w5) := (by first | exact hf5 | exact ((Fr.refl NoBlk wr).drew).trans hf5)
             rw [← HKV.out] at hx5
             have HX5 : Hid (FilIn w5 wr.heap.size ⟨f.name, g5, A5, c5, (pcrashF f.pf (ks.getD i 0)).data, (pcrashF f.pf (ks.getD i 0)).last⟩) := hx5
             obtain ⟨w6, hrun6, hmp6, hf6⟩ := (HH.out.dk.mp.fr HF5.out (fun h => h)).put f.name (by unfold maxLen; omega) (by unfold fsOf; rw [List.length_map]; have := HLL.out; show L.length ≤ 1000; omega) g5
             have HNX := Lib.hid (HH.out.next HD.out HF.out HX5.out HF5.out hmp6 hf6)
             have HRX : Hid (Rd w6 (some ⟨b, o, none⟩) (sts (m.files.map (·.name)))) := (HRT.out.nofr HF5.out).fr' hf6 fun hp => (HRT.out.nofr HF5.out).notMap (HH.out.dk.mp.fr HF5.out (fun h => h)) hp
             have d5 : w5.cell? ⟨g2, 1, none⟩ = some (.map (some b2)) := (HF5.out.cell (p := ⟨g2, 1, none⟩) hgl2 (fun h => h)).trans d1
             have d6 : w5.cell? ⟨gd, 1, none⟩ = some (.map (some m.bm)) := (HF5.out.cell (p := ⟨gd, 1, none⟩) hglr (fun h => h)).trans c1r
             clear hg5 hx5 hf5 hmp6 hf6))
        all_goals
          go_wp2_with fail
          go_roundw
          case rel => exact ⟨i + 1, _, by omega, by go_num, HNX, HRX⟩
          case measure => simp [intOf]; omega
    · have HX : Hid (NewPost w (pCrash m.pd ks) (.returned (.pointer (some ⟨g2, 0, none⟩))) wr) := by
        refine ⟨g2, _, rfl, ?_, HH.out.dk, HH.out.fr⟩
        unfold Dsk.pd pCrash
        dsimp only
        rw [HH.out.pf, List.take_of_length_le (by rw [pcrashL_len, List.length_map]; omega)]
      go_wp2_with fail
      go_ret
      exact HX.out
end Go.Proofs.YtafiokabnlmgpaaGreatDoor
