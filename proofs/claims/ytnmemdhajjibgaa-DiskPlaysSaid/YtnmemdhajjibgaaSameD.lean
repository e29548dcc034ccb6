/- The law's same: the disk has just the document's files. No condition. -/
import Derived.Test.YtnmemdhajjibgaaStep
namespace Go.Proofs.Ytnmemdhajjibgaa
open Go.RowKit

theorem norm_read (p : PD) (k : Bs) : pRead (norm p) k = pRead p k := rfl
set_option maxRecDepth 100000 in
set_option maxHeartbeats 4000000 in
theorem same_any (v w : World) (gd : Nat) (p : PD) (m : RM) (h : Pair v w gd p m NoBlk) (hm : m.pd = norm p) :
    Calls Try.prog 15 #[.pointer (some ⟨gd, 0, none⟩), .pointer (some ⟨m.g, 0, none⟩)] w fun e w' => e = .returned (.bool true) ∧ Fr NoBlk w w' := by
  have ht : RFit m := h.fit hm rfl rfl h.ats.leftB
  have hpf : m.pfs = p.files := congrArg PD.files hm
  have hfl : m.pfs.length = m.fs.length := List.length_map ..
  have hl := ht.len
  have htot := ht.tot
  have hroom := ht.room
  have HP := Lib.hid h
  have HM := Lib.hid hm
  have HT := Lib.hid ht
  have hnm := h.ats.names
  rw [← hpf] at hnm
  have HNM := Lib.hid hnm
  have HN := Lib.hid (namesS h.ats)
  rw [← hpf] at HN
  have hgl := h.rin.bk.lt
  clear h hm ht hnm
  go_enter Try.func15, Try.ntmps15
  go_wp2_with fail
  refine HN.out.mono ?_
  clear HN
  rintro e w1 ⟨A, c, rfl, htx⟩
  have HP1 := Lib.hid (HP.out.nofr htx.fr)
  have HTX := Lib.hid htx.rd
  have HF1 := Lib.hid htx.fr
  obtain ⟨_, c1, _, _⟩ := HP1.out.rin.cell
  have hg1 := HP1.out.rin.bk.lt
  have hln : (m.pfs.map (·.name)).length = m.fs.length := by rw [List.length_map]; exact hfl
  have HU := Lib.hid (usedS HP1.out.ats)
  obtain ⟨tot, htt⟩ : ∃ tot, tot = ptotal m.pfs := ⟨_, rfl⟩
  have HTT := Lib.hid htt
  rw [← hpf, ← htt] at HU
  have HU2 := Lib.hid fun W (hf : Fr NoBlk w1 W) => rused_any W _ m (HP1.out.rin.nofr hf) (by omega) (by omega)
  rw [← htt] at HU2
  rw [hln]
  clear htx htt HP
  go_wp2_with fail
  refine HU.out.mono ?_
  clear HU
  rintro e w2 ⟨rfl, hf2⟩
  have HF2 := Lib.hid (HF1.out.trans hf2)
  have HF12 := Lib.hid hf2
  clear hf2
  go_wp2_with fail
  refine (HU2.out _ HF12.out).mono ?_
  clear HU2
  rintro e w3 ⟨rfl, rfl⟩
  have HP2 := Lib.hid (HP1.out.nofr HF12.out)
  have HTX2 := Lib.hid (HTX.out.nofr HF12.out)
  obtain ⟨_, c2, _, _⟩ := HP2.out.rin.cell
  have hg2 := HP2.out.rin.bk.lt
  clear c1 hg1 HP1 HTX HF1 HF12
  go_wp2_with fail
  go_loopw [34] (fun z wr => ∃ k : Nat, k ≤ m.fs.length ∧ z = .int .i64 k ∧ Hid (Fr NoBlk w wr) ∧ Hid (Pair v wr gd p m NoBlk) ∧ Hid (Rd wr A (sts (m.pfs.map (·.name))))) (fun z _ => m.fs.length - (intOf z).toNat)
  case atStart => exact ⟨0, by omega, rfl, HF2, HP2, HTX2⟩
  case round =>
    clear HF2 HP2 HTX2 c2 hg2
    obtain ⟨k, hk, rfl, HFW, HPW, HTW⟩ := hrel
    by_cases hlt : k < m.fs.length
    · obtain ⟨f, hf⟩ : ∃ f, m.fs[k]? = some f := ⟨_, List.getElem?_eq_getElem hlt⟩
      obtain ⟨b, hA, hne, q0, q1, q2, hfz⟩ := HPW.out.rin.file hf
      have hpk : m.pfs[k]? = some f.pf := by show (m.fs.map RF.pf)[k]? = _; rw [List.getElem?_map, hf]; rfl
      obtain ⟨nb, no, rfl, hnc⟩ := HTW.out.at_ (k := k) (v := st f.pf.name) (by
        show ((m.pfs.map (·.name)).map st)[k]? = _
        rw [List.getElem?_map, List.getElem?_map, hpk]; rfl)
      unfold st at hnc
      have hkn : f.pf.name.length ≤ 16 := HNM.out _ (List.mem_of_getElem? hpk)
      have hd : (pRead p f.pf.name) = (pRead p f.pf.name) := rfl
      have i0' : (0 : Int) ≤ (k : Int) := by omega
      have i1' : (k : Int) < (m.fs.length : Int) := by omega
      obtain ⟨⟨nm, dt, la⟩, fa, fc⟩ := f
      dsimp only at q0 q1 q2 hnc hkn
      obtain ⟨wB, hwB⟩ : ∃ wB, wB = wr.alloc (.cells #[.string (bstr nm), .slice fa dt.length fc, .int .i64 la] 68) := ⟨_, rfl⟩
      have HWB := Lib.hid hwB
      have HFB : Hid (Fr NoBlk wr wB) := by show Fr _ _ _; rw [hwB]; exact (Fr.refl _ _).alloc _
      have HBB : Hid (Bk wB wr.heap.size 68 #[.string (bstr nm), .slice fa dt.length fc, .int .i64 la]) := by show Bk _ _ _ _; rw [hwB]; exact Bk.new _ _ _
      have HPB := Lib.hid (HPW.out.nofr HFB.out)
      have HTB := Lib.hid (HTW.out.nofr HFB.out)
      have HRD := Lib.hid (readS HPB.out.ats nm (by unfold maxLen; omega))
      have HRR := Lib.hid fun W (hf : Fr NoBlk wB W) => rread_any W _ m (HPB.out.rin.nofr hf) HT.out nm
      rw [HM.out, norm_read] at HRR
      have b0 : wB.cell? ⟨wr.heap.size, 0, none⟩ = some (.string (bstr nm)) := HBB.out.cell 0
      have hnbl : nb < wr.heap.size := World.block_lt_of_cell? wr _ hnc
      generalize pRead p nm = rd at *
      obtain ⟨d, z⟩ := rd
      rw [hA]
      clear hf hA hne hfz hpk hwB hd
      go_wp2_with fail
      rw [← HWB.out]
      clear HWB q0 q1 q2
      refine HRD.out.mono ?_
      clear HRD
      rintro e w5 ⟨B, cB, rfl, hg5⟩
      dsimp only at hg5 ⊢
      have HG5 := Lib.hid hg5
      have b5 : w5.cell? ⟨wr.heap.size, 0, none⟩ = some (.string (bstr nm)) := (HBB.out.fr hg5.got.fr fun h => h).cell 0
      have HRC := Lib.hid (HRR.out w5 hg5.got.fr)
      clear hg5 HRR b0
      go_wp2_with fail
      refine HRC.out.mono ?_
      clear HRC
      rintro e w6 ⟨C, cC, rfl, hrc, hf6⟩
      dsimp only at hrc ⊢
      have HF6 : Hid (Fr NoBlk w5 w6.drew) := hf6.trans (Fr.refl _ _).drew
      have HFS : Hid (Fsh w6.drew wB.heap.size B d.length 5) := fun hp => by
        obtain ⟨g, cs, e, hN, hb, hs⟩ := HG5.out.fsh.fr HF6.out (by omega)
        exact ⟨g, cs, e, hN, hb, by omega⟩
      have hdm : d.length ≤ maxLen := Nat.le_trans HG5.out.got.le HG5.out.got.max
      have HFA : Hid (Fr NoBlk wr w6.drew) := (HFB.out.trans HG5.out.got.fr).trans HF6.out
      have HSPB : Hid (∀ k, ablk B k ∧ 0 < d.length → wr.heap.size ≤ k) := fun k hk => by
        obtain ⟨g, e, hg⟩ := HG5.out.got.new hk.2
        obtain ⟨a, ea, ek⟩ := hk.1
        rw [ea] at e
        injection e with e
        subst e
        have := HFB.out.size
        rw [← ek]
        exact Nat.le_trans this hg
      have sD : w6.drew.cell? ⟨nb, no + k, none⟩ = some (.string (bstr nm)) ∧ w6.drew.cell? ⟨wr.heap.size, 0, none⟩ = some (.string (bstr nm)) ∧ (convert 31 9 (.slice B d.length cB)).run Try.prog w6.drew = .ok (.string (bstr d)) w6.drew ∧ (convert 31 9 (.slice C d.length cC)).run Try.prog w6.drew = .ok (.string (bstr d)) w6.drew :=
        ⟨(HFA.out.cell (p := ⟨nb, no + k, none⟩) hnbl (fun h => h)).trans hnc, (HBB.out.fr (HG5.out.got.fr.trans HF6.out) fun h => h).cell 0, strBs _ B d.length cB d rfl (HG5.out.got.rd.nofr HF6.out), strBs _ C d.length cC d rfl (hrc.nofr (Fr.refl _ _).drew)⟩
      have HSP := Lib.hid (spoil3_any w6.drew wB.heap.size B d.length cB HFS.out hdm)
      have e3 := bstr_toList nm
      have e4 := bstr_toList d
      clear hf6 hrc b5 hdm HFS
      generalize d.length = dn at *
      go_wp2_with fail
      refine wp_region_held_drew (S := fun w' => w'.cell? ⟨nb, no + k, none⟩ = some (.string (bstr nm)) ∧ w'.cell? ⟨wr.heap.size, 0, none⟩ = some (.string (bstr nm)) ∧ (convert 31 9 (.slice B dn cB)).run Try.prog w' = .ok (.string (bstr d)) w' ∧ (convert 31 9 (.slice C dn cC)).run Try.prog w' = .ok (.string (bstr d)) w') (by kernel_rfl) (by exact sD) (fun hHeld => ?_)
      refine wpAnyH_take (i := 0) (oi := ⟨some 53, _, _, _, _, _⟩) (v := ?_) rfl (by kernel_rfl) (by kernel_rfl) (by kernel_rfl) (fun _ _ _ h => h) (Or.inl ⟨by rfl, ?_⟩) (by assumption) ?_
      rotate_left 1
      · (intro w hSw; (try dsimp only at hSw); obtain ⟨hSa, hSb, hSc, hSd⟩ := hSw; go_simp) <;> (with_reducible rfl)
      try simp only [Act.put, List.setIfInBounds_toArray, List.set_cons_zero, List.set_cons_succ]
      refine wpAnyH_take (i := 1) (oi := ⟨some 54, _, _, _, _, _⟩) (v := ?_) rfl (by kernel_rfl) (by kernel_rfl) (by kernel_rfl) (fun _ _ _ h => h) (Or.inl ⟨by rfl, ?_⟩) (by assumption) ?_
      rotate_left 1
      · (intro w hSw; (try dsimp only at hSw); obtain ⟨hSa, hSb, hSc, hSd⟩ := hSw; go_simp) <;> (with_reducible rfl)
      try simp only [Act.put, List.setIfInBounds_toArray, List.set_cons_zero, List.set_cons_succ]
      refine wpAnyH_take (i := 2) (oi := ⟨some 55, _, _, _, _, _⟩) (v := ?_) rfl (by kernel_rfl) (by kernel_rfl) (by kernel_rfl) (fun _ _ _ h => h) (Or.inl ⟨by rfl, ?_⟩) (by assumption) ?_
      rotate_left 1
      · (intro w hSw; (try dsimp only at hSw); obtain ⟨hSa, hSb, hSc, hSd⟩ := hSw; go_simp) <;> (with_reducible rfl)
      try simp only [Act.put, List.setIfInBounds_toArray, List.set_cons_zero, List.set_cons_succ]
      refine wpAnyH_take (i := 3) (oi := ⟨some 56, _, _, _, _, _⟩) (v := ?_) rfl (by kernel_rfl) (by kernel_rfl) (by kernel_rfl) (fun _ _ _ h => h) (Or.inl ⟨by rfl, ?_⟩) (by assumption) ?_
      rotate_left 1
      · (intro w hSw; (try dsimp only at hSw); obtain ⟨hSa, hSb, hSc, hSd⟩ := hSw; go_simp) <;> (with_reducible rfl)
      try simp only [Act.put, List.setIfInBounds_toArray, List.set_cons_zero, List.set_cons_succ]
      refine wpAnyH_take (i := 4) (oi := ⟨some 57, _, _, _, _, _⟩) (v := ?_) rfl (by kernel_rfl) (by kernel_rfl) (by kernel_rfl) (fun _ _ _ h => h) (Or.inl ⟨by rfl, ?_⟩) (by assumption) ?_
      rotate_left 1
      · (intro w hSw; (try dsimp only at hSw); obtain ⟨hSa, hSb, hSc, hSd⟩ := hSw; go_simp) <;> (with_reducible rfl)
      try simp only [Act.put, List.setIfInBounds_toArray, List.set_cons_zero, List.set_cons_succ]
      refine wpAnyH_take (i := 5) (oi := ⟨some 58, _, _, _, _, _⟩) (v := ?_) rfl (by kernel_rfl) (by kernel_rfl) (by kernel_rfl) (fun _ _ _ h => h) (Or.inl ⟨by rfl, ?_⟩) (by assumption) ?_
      rotate_left 1
      · (intro w hSw; (try dsimp only at hSw); obtain ⟨hSa, hSb, hSc, hSd⟩ := hSw; go_simp) <;> (with_reducible rfl)
      try simp only [Act.put, List.setIfInBounds_toArray, List.set_cons_zero, List.set_cons_succ]
      refine wpAnyH_take (i := 6) (oi := ⟨some 59, _, _, _, _, _⟩) (v := ?_) rfl (by kernel_rfl) (by kernel_rfl) (by kernel_rfl) (fun _ _ _ h => h) (Or.inl ⟨by rfl, ?_⟩) (by assumption) ?_
      rotate_left 1
      · (intro w hSw; (try dsimp only at hSw); obtain ⟨hSa, hSb, hSc, hSd⟩ := hSw; go_simp) <;> (with_reducible rfl)
      try simp only [Act.put, List.setIfInBounds_toArray, List.set_cons_zero, List.set_cons_succ]
      refine wpAnyH_take (i := 7) (oi := ⟨some 60, _, _, _, _, _⟩) (v := ?_) rfl (by kernel_rfl) (by kernel_rfl) (by kernel_rfl) (fun _ _ _ h => h) (Or.inl ⟨by rfl, ?_⟩) (by assumption) ?_
      rotate_left 1
      · (intro w hSw; (try dsimp only at hSw); obtain ⟨hSa, hSb, hSc, hSd⟩ := hSw; go_simp) <;> (with_reducible rfl)
      try simp only [Act.put, List.setIfInBounds_toArray, List.set_cons_zero, List.set_cons_succ]
      refine wpAnyH_take (i := 8) (oi := ⟨some 61, _, _, _, _, _⟩) (v := ?_) rfl (by kernel_rfl) (by kernel_rfl) (by kernel_rfl) (fun _ _ _ h => h) (Or.inl ⟨by rfl, ?_⟩) (by assumption) ?_
      rotate_left 1
      · (intro w hSw; (try dsimp only at hSw); obtain ⟨hSa, hSb, hSc, hSd⟩ := hSw; go_simp) <;> (with_reducible rfl)
      try simp only [Act.put, List.setIfInBounds_toArray, List.set_cons_zero, List.set_cons_succ]
      refine wpAnyH_take (i := 9) (oi := ⟨some 62, _, _, _, _, _⟩) (v := ?_) rfl (by kernel_rfl) (by kernel_rfl) (by kernel_rfl) (fun _ _ _ h => h) (Or.inl ⟨by rfl, ?_⟩) (by assumption) ?_
      rotate_left 1
      · (intro w hSw; (try dsimp only at hSw); obtain ⟨hSa, hSb, hSc, hSd⟩ := hSw; go_simp) <;> (with_reducible rfl)
      try simp only [Act.put, List.setIfInBounds_toArray, List.set_cons_zero, List.set_cons_succ]
      refine wpAnyH_take (i := 10) (oi := ⟨some 63, _, _, _, _, _⟩) (v := ?_) rfl (by kernel_rfl) (by kernel_rfl) (by kernel_rfl) (fun _ _ _ h => h) (Or.inl ⟨by rfl, ?_⟩) (by assumption) ?_
      rotate_left 1
      · (intro w hSw; (try dsimp only at hSw); obtain ⟨hSa, hSb, hSc, hSd⟩ := hSw; go_simp) <;> (with_reducible rfl)
      try simp only [Act.put, List.setIfInBounds_toArray, List.set_cons_zero, List.set_cons_succ]
      refine wpAnyH_take (i := 11) (oi := ⟨some 64, _, _, _, _, _⟩) (v := ?_) rfl (by kernel_rfl) (by kernel_rfl) (by kernel_rfl) (fun _ _ _ h => h) (Or.inl ⟨by rfl, ?_⟩) (by assumption) ?_
      rotate_left 1
      · (intro w hSw; (try dsimp only at hSw); obtain ⟨hSa, hSb, hSc, hSd⟩ := hSw; go_simp) <;> (with_reducible rfl)
      try simp only [Act.put, List.setIfInBounds_toArray, List.set_cons_zero, List.set_cons_succ]
      refine wpAnyH_take (i := 12) (oi := ⟨some 65, _, _, _, _, _⟩) (v := ?_) rfl (by kernel_rfl) (by kernel_rfl) (by kernel_rfl) (fun _ _ _ h => h) (Or.inl ⟨by rfl, ?_⟩) (by assumption) ?_
      rotate_left 1
      · (intro w hSw; (try dsimp only at hSw); obtain ⟨hSa, hSb, hSc, hSd⟩ := hSw; go_simp) <;> (with_reducible rfl)
      try simp only [Act.put, List.setIfInBounds_toArray, List.set_cons_zero, List.set_cons_succ]
      refine wpAnyH_take (i := 13) (oi := ⟨some 66, _, _, _, _, _⟩) (v := ?_) rfl (by kernel_rfl) (by kernel_rfl) (by kernel_rfl) (fun _ _ _ h => h) (Or.inl ⟨by rfl, ?_⟩) (by assumption) ?_
      rotate_left 1
      · (intro w hSw; (try dsimp only at hSw); obtain ⟨hSa, hSb, hSc, hSd⟩ := hSw; go_simp) <;> (with_reducible rfl)
      try simp only [Act.put, List.setIfInBounds_toArray, List.set_cons_zero, List.set_cons_succ]
      refine wpAnyH_take (i := 14) (oi := ⟨some 67, _, _, _, _, _⟩) (v := ?_) rfl (by kernel_rfl) (by kernel_rfl) (by kernel_rfl) (fun _ _ _ h => h) (Or.inl ⟨by rfl, ?_⟩) (by assumption) ?_
      rotate_left 1
      · (intro w hSw; (try dsimp only at hSw); obtain ⟨hSa, hSb, hSc, hSd⟩ := hSw; go_simp) <;> (with_reducible rfl)
      try simp only [Act.put, List.setIfInBounds_toArray, List.set_cons_zero, List.set_cons_succ]
      refine wpAnyH_take (i := 15) (oi := ⟨some 68, _, _, _, _, _⟩) (v := ?_) rfl (by kernel_rfl) (by kernel_rfl) (by kernel_rfl) (fun _ _ _ h => h) (Or.inl ⟨by rfl, ?_⟩) (by assumption) ?_
      rotate_left 1
      · (intro w hSw; (try dsimp only at hSw); obtain ⟨hSa, hSb, hSc, hSd⟩ := hSw; go_simp) <;> (with_reducible rfl)
      try simp only [Act.put, List.setIfInBounds_toArray, List.set_cons_zero, List.set_cons_succ]
      refine wpAnyH_take (i := 16) (oi := ⟨some 69, _, _, _, _, _⟩) (v := ?_) rfl (by kernel_rfl) (by kernel_rfl) (by kernel_rfl) (fun _ _ _ h => h) (Or.inl ⟨by rfl, ?_⟩) (by assumption) ?_
      rotate_left 1
      · (intro w hSw; (try dsimp only at hSw); obtain ⟨hSa, hSb, hSc, hSd⟩ := hSw; go_simp) <;> (with_reducible rfl)
      try simp only [Act.put, List.setIfInBounds_toArray, List.set_cons_zero, List.set_cons_succ]
      refine wpAnyH_take (i := 17) (oi := ⟨some 70, _, _, _, _, _⟩) (v := ?_) rfl (by kernel_rfl) (by kernel_rfl) (by kernel_rfl) (fun _ _ _ h => h) (Or.inl ⟨by rfl, ?_⟩) (by assumption) ?_
      rotate_left 1
      · (intro w hSw; (try dsimp only at hSw); obtain ⟨hSa, hSb, hSc, hSd⟩ := hSw; go_simp) <;> (with_reducible rfl)
      try simp only [Act.put, List.setIfInBounds_toArray, List.set_cons_zero, List.set_cons_succ]
      refine wpAnyH_take (i := 18) (oi := ⟨some 71, _, _, _, _, _⟩) (v := ?_) rfl (by kernel_rfl) (by kernel_rfl) (by kernel_rfl) (fun _ _ _ h => h) (Or.inl ⟨by rfl, ?_⟩) (by assumption) ?_
      rotate_left 1
      · (intro w hSw; (try dsimp only at hSw); obtain ⟨hSa, hSb, hSc, hSd⟩ := hSw; go_simp) <;> (with_reducible rfl)
      try simp only [Act.put, List.setIfInBounds_toArray, List.set_cons_zero, List.set_cons_succ]
      refine wpAnyH_done (by kernel_rfl) ?_ _
      go_wp2_with fail
      refine HSP.out.mono ?_
      clear HSP
      rintro e w7 ⟨rfl, hf7⟩
      have HF7 : Hid (Fr NoBlk wr w7) := HFA.out.step hf7 fun i hi e => by
        have := HSPB.out i e
        omega
      have HP7 := Lib.hid (HPW.out.nofr HF7.out)
      have HT7 := Lib.hid (HTW.out.nofr HF7.out)
      have HFZ := Lib.hid (HFW.out.trans HF7.out)
      clear hf7 sD
      go_wp2_with fail
      go_roundw
      case rel => exact ⟨k + 1, by omega, by go_num, HFZ, HP7, HT7⟩
      case measure => simp [intOf]; omega
    · go_wp2_with fail
      go_ret
      exact ⟨rfl, HFW.out⟩

theorem intInfo : (Try.prog.info? 3).map (fun i => (i.zero, i.size, i.bytes)) = some (some (.int .i64 0), 1, 8) := by kernel_rfl
theorem ics_one (ks : List Int) : ∀ u ∈ ics ks, u.oneCell' = true := by
  intro u hu
  simp only [ics, List.mem_map] at hu
  obtain ⟨x, _, rfl⟩ := hu
  rfl
theorem RIn.mono {w : World} {b b' : Nat} {m : RM} (h : RIn w b m) (hb : b' ≤ b) : RIn w b' m :=
  ⟨h.bk, Nat.le_trans hb h.gb, own_base h.row hb, fun f hf => let d := h.dat f hf; ⟨d.rd, d.le, d.max, d.nil, fun hp k hk => ⟨Nat.le_trans hb (d.blk hp k hk).1, (d.blk hp k hk).2⟩⟩⟩
set_option maxRecDepth 100000 in
theorem new_bad (w : World) (r : Int) (h : r < 1 ∨ 1048576 < r) : Calls Try.prog 12 #[.int .i64 r] w fun e w' => e = .returned (.tuple #[.pointer none, .int .i64 1]) ∧ w = w' := by
  by_cases h1 : r < 1
  · have d1 : decide (r < 1) = true := decide_eq_true h1
    clear h
    go_enter Try.func12, Try.ntmps12
    go_wp2_with fail
    go_ret2
    exact ⟨rfl, rfl⟩
  · have h2 : 1048576 < r := h.resolve_left h1
    have d1 : decide (r < 1) = false := decide_eq_false h1
    have d2 : decide (1048576 < r) = true := decide_eq_true h2
    clear h
    go_enter Try.func12, Try.ntmps12
    go_wp2_with fail
    go_ret2
    exact ⟨rfl, rfl⟩
/-- both are new. -/
theorem Pair.new {v w3 w4 : World} {gd n : Nat} (h : At v w3 v.heap.size gd (pNew n)) {m : RM} (hr : RIn w4 w3.heap.size m) (hf : Fr NoBlk w3 w4) : Pair v w4 gd (pNew n) m NoBlk :=
  ⟨h.prot hf fun _ hk => hk.elim (fun h2 => .inl (hr.blk h2).1) fun h2 => h2.elim, hr.mono h.fr.size, fun _ h => h.elim⟩
/-- both are crashed. -/
theorem Pair.crash {v w4 w5 w6 w7 : World} {gd : Nat} {p : PD} (hx : ∀ S', (∀ k, S' k → k < w4.heap.size) → AtS v w5 gd p S') (hf : Fr NoBlk w5 w6) {m : RM} (hr : RIn w7 w6.heap.size m) (hf2 : Fr NoBlk w6 w7) : Pair v w7 gd p m NoBlk := by
  have h0 := hx NoS fun _ h => h.elim
  have hs := h0.fr.size
  have hs2 := hf.size
  exact ⟨h0.prot (hf.trans hf2) (fun _ _ h => h.elim) fun k hk => hk.elim (fun h2 => .inr (by have := (hr.blk h2).1; omega)) fun h2 => h2.elim, hr.mono (by omega), fun _ h => h.elim⟩
end Go.Proofs.Ytnmemdhajjibgaa
