/- The log's read. Conditions: the disk's power has no end. -/
import Derived.Test.YtafiokabnlmgpaaGreatDoorReadP
namespace Go.Proofs.YtafiokabnlmgpaaGreatDoor
open Go.RowKit Go.Maps

/-- how far parts are read. -/
structure ReadAt (w w0 wr : World) (gd gl : Nat) (p : PD) (L0 : PL) (S : Nat → Prop) (k : Nat) (L : PL) : Prop where
  wl : WL w wr gd p gl L S
  fr : Fr (Loose w S) w0 wr
  rd : lread (10 - k) p k L = lread 10 p 0 L0
  few : L.recs.length ≤ k * 1048576
def LReadPost (w w0 : World) (gd gl : Nat) (r : PD × PL) (S : Nat → Prop) (e : Ending) (w' : World) : Prop := e = .returned (.int .i64 0) ∧ WL w w' gd r.1 gl r.2 S ∧ Fr (Loose w S) w0 w'

set_option maxRecDepth 100000 in
set_option maxHeartbeats 4000000 in
theorem lread_any (w w0 : World) (gd gl : Nat) (p : PD) (L0 : PL) (S : Nat → Prop) (h : WL w w0 gd p gl L0 S) (ht : Tab w) (hon : On' p) (h0 : L0.recs = []) :
    Calls Tryz.prog 106 #[.pointer (some ⟨gl, 0, none⟩)] w0 (LReadPost w w0 gd gl (lread 10 p 0 L0) S) := by
  have HX0 : Hid (∃ L, ReadAt w w0 w0 gd gl p L0 S 0 L) := ⟨L0, h, Fr.refl _ _, rfl, by rw [h0]; exact Nat.zero_le _⟩
  have HT := Lib.hid ht
  have HON := Lib.hid hon
  clear h ht hon h0
  go_enter Tryz.func106, Tryz.ntmps106
  go_wp2_with fail
  go_loopw [6] (fun s wr => ∃ (k : Nat), k ≤ 10 ∧ s = .int .i64 k ∧ Hid (∃ L, ReadAt w w0 wr gd gl p L0 S k L)) (fun s _ => 10 - (intOf s).toNat)
  case atStart => exact ⟨0, Nat.zero_le _, rfl, HX0⟩
  case round =>
    clear HX0
    obtain ⟨k, hk, rfl, HX⟩ := hrel
    obtain ⟨L, hL⟩ := HX.out
    by_cases hlt : k < 10
    · obtain ⟨g, hgp, hlg, hag, hsg, htg⟩ := hL.wl
      have hnm : g.name = L.name := by rw [← hgp]; rfl
      have hf : lread (10 - k) p k L = match pfind p.files (lfile L.name k) with
        | none => (p, L)
        | some x => if (parse x.data).2 < x.data.length then ((pCut p (lfile L.name k) (parse x.data).2).1, L.got k (parse x.data)) else lread (10 - (k + 1)) p (k + 1) (L.got k (parse x.data)) := by
        obtain ⟨f, hf⟩ : ∃ f, 10 - k = f + 1 := ⟨9 - k, by omega⟩
        rw [hf, show 10 - (k + 1) = f from by omega]
        rfl
      have HLR := Lib.hid hf
      have c0 : wr.cell? ⟨gl, 0, none⟩ = some (.pointer (some ⟨gd, 0, none⟩)) := hlg.bk.cell 0
      have HFI := Lib.hid fun W (hb : Bk W gl 192 (g.cells gd)) => file_any W gd gl g hb hlg.nm k (by omega)
      have hlf : (lfile g.name k).length ≤ maxLen := by rw [lfile_len]; have := hlg.nm; unfold maxLen; omega
      have HRD := Lib.hid fun W (hf : Fr NoBlk wr W) => readS (hag.nofr hf) (lfile g.name k) hlf
      have HLA := Lib.hid hL
      have HLG := Lib.hid hlg
      have HAG := Lib.hid hag
      have HSG := Lib.hid hsg
      have HTG := Lib.hid htg
      have HGP := Lib.hid hgp
      have HNM := Lib.hid hnm
      have HB := Lib.hid hlg.bk
      clear hL HX hgp hlg hag hsg htg hnm hf hlf
      obtain ⟨nk, hnk⟩ : ∃ nk, nk = lfile g.name k := ⟨_, rfl⟩
      have HNK := Lib.hid hnk
      obtain ⟨rp, hrp⟩ : ∃ rp, rp = pRead p nk := ⟨_, rfl⟩
      rw [← hnk] at HFI HRD
      rw [← hrp] at HRD
      have HRP := Lib.hid hrp
      clear hnk hrp
      obtain ⟨rd, re⟩ := rp
      go_wp2_with fail
      refine wp_region_held_drew (S := fun w' => w'.cell? ⟨gl, 0, none⟩ = some (.pointer (some ⟨gd, 0, none⟩))) (by kernel_rfl) (by exact c0) (fun hHeld => ?_)
      refine wpAnyH_take (i := 0) (oi := ⟨some 10, _, _, _, _, _⟩) (v := ?_) rfl (by kernel_rfl) (by kernel_rfl) (by kernel_rfl) (fun _ _ _ h => h) (Or.inl ⟨by rfl, ?_⟩) (by assumption) ?_
      rotate_left 1
      · (intro w hSw; (try dsimp only at hSw); go_simp) <;> (with_reducible rfl)
      try simp only [Act.put, List.setIfInBounds_toArray, List.set_cons_zero, List.set_cons_succ]
      refine wpAnyH_take (i := 1) (oi := ⟨some 11, _, _, _, _, _⟩) (v := ?_) rfl (by kernel_rfl) (by kernel_rfl) (by kernel_rfl) (fun _ _ _ h => h) (Or.inl ⟨by rfl, ?_⟩) (by assumption) ?_
      rotate_left 1
      · (intro w hSw; (try dsimp only at hSw); go_simp) <;> (with_reducible rfl)
      try simp only [Act.put, List.setIfInBounds_toArray, List.set_cons_zero, List.set_cons_succ]
      refine wpAnyH_take (i := 2) (oi := ⟨some 12, _, _, _, _, _⟩) (v := ?_) rfl (by kernel_rfl) (by kernel_rfl) (by kernel_rfl) (fun _ _ _ h => h) (Or.inl ⟨by rfl, ?_⟩) (by assumption) ?_
      rotate_left 1
      · (intro w hSw; (try dsimp only at hSw); go_simp) <;> (with_reducible rfl)
      try simp only [Act.put, List.setIfInBounds_toArray, List.set_cons_zero, List.set_cons_succ]
      refine wpAnyH_take (i := 3) (oi := ⟨some 13, _, _, _, _, _⟩) (v := ?_) rfl (by kernel_rfl) (by kernel_rfl) (by kernel_rfl) (fun _ _ _ h => h) (Or.inl ⟨by rfl, ?_⟩) (by assumption) ?_
      rotate_left 1
      · (intro w hSw; (try dsimp only at hSw); go_simp) <;> (with_reducible rfl)
      try simp only [Act.put, List.setIfInBounds_toArray, List.set_cons_zero, List.set_cons_succ]
      refine wpAnyH_take (i := 4) (oi := ⟨some 14, _, _, _, _, _⟩) (v := ?_) rfl (by kernel_rfl) (by kernel_rfl) (by kernel_rfl) (fun _ _ _ h => h) (Or.inl ⟨by rfl, ?_⟩) (by assumption) ?_
      rotate_left 1
      · (intro w hSw; (try dsimp only at hSw); go_simp) <;> (with_reducible rfl)
      try simp only [Act.put, List.setIfInBounds_toArray, List.set_cons_zero, List.set_cons_succ]
      refine wpAnyH_take (i := 5) (oi := ⟨some 15, _, _, _, _, _⟩) (v := ?_) rfl (by kernel_rfl) (by kernel_rfl) (by kernel_rfl) (fun _ _ _ h => h) (Or.inl ⟨by rfl, ?_⟩) (by assumption) ?_
      rotate_left 1
      · (intro w hSw; (try dsimp only at hSw); go_simp) <;> (with_reducible rfl)
      try simp only [Act.put, List.setIfInBounds_toArray, List.set_cons_zero, List.set_cons_succ]
      refine wpAnyH_ready (rs := [6]) (by kernel_rfl) (by simp) ?_
      refine AllReadyH.cons (o := ⟨some 16, _, _, _, _, _⟩) rfl (fun K hK => ?_) AllReadyH.nil
      go_simp
      go_at_call 123
      refine (HFI.out _ HB.out.drew).mono ?_
      rintro e w3 ⟨rfl, rfl⟩
      go_wp2_with fail
      refine hK.out _ _ ?_ (fun hHeld => ?_)
      · first | exact c0 | exact c04
      clear hK K
      try simp only [Act.put, List.setIfInBounds_toArray, List.set_cons_zero, List.set_cons_succ]
      refine wpAnyH_ready (rs := [7]) (by kernel_rfl) (by simp) ?_
      refine AllReadyH.cons (o := ⟨some 17, _, _, _, _, _⟩) rfl (fun K hK => ?_) AllReadyH.nil
      go_simp
      go_at_call 36
      refine (HRD.out _ (Fr.refl _ _).drew).mono ?_
      rintro e w4 ⟨A4, c4, rfl, hg4⟩
      have HG4 := Lib.hid hg4
      have c04 : w4.cell? ⟨gl, 0, none⟩ = some (.pointer (some ⟨gd, 0, none⟩)) := (HB.out.drew.fr hg4.got.fr fun h => h).cell 0
      clear hg4
      dsimp only
      go_wp2_with fail
      refine hK.out _ _ ?_ (fun hHeld => ?_)
      · first | exact c0 | exact c04
      clear hK K
      try simp only [Act.put, List.setIfInBounds_toArray, List.set_cons_zero, List.set_cons_succ]
      refine wpAnyH_take (i := 8) (oi := ⟨some 9, _, _, _, _, _⟩) (v := ?_) rfl (by kernel_rfl) (by kernel_rfl) (by kernel_rfl) (fun _ _ _ h => h) (Or.inl ⟨by rfl, ?_⟩) (by assumption) ?_
      rotate_left 1
      · (intro w hSw; (try dsimp only at hSw); go_simp) <;> (with_reducible rfl)
      try simp only [Act.put, List.setIfInBounds_toArray, List.set_cons_zero, List.set_cons_succ]
      refine wpAnyH_take (i := 9) (oi := ⟨some 18, _, _, _, _, _⟩) (v := ?_) rfl (by kernel_rfl) (by kernel_rfl) (by kernel_rfl) (fun _ _ _ h => h) (Or.inl ⟨by rfl, ?_⟩) (by assumption) ?_
      rotate_left 1
      · (intro w hSw; (try dsimp only at hSw); go_simp) <;> (with_reducible rfl)
      try simp only [Act.put, List.setIfInBounds_toArray, List.set_cons_zero, List.set_cons_succ]
      refine wpAnyH_take (i := 10) (oi := ⟨some 19, _, _, _, _, _⟩) (v := ?_) rfl (by kernel_rfl) (by kernel_rfl) (by kernel_rfl) (fun _ _ _ h => h) (Or.inl ⟨by rfl, ?_⟩) (by assumption) ?_
      rotate_left 1
      · (intro w hSw; (try dsimp only at hSw); go_simp) <;> (with_reducible rfl)
      try simp only [Act.put, List.setIfInBounds_toArray, List.set_cons_zero, List.set_cons_succ]
      refine wpAnyH_take (i := 11) (oi := ⟨some 4, _, _, _, _, _⟩) (v := ?_) rfl (by kernel_rfl) (by kernel_rfl) (by kernel_rfl) (fun _ _ _ h => h) (Or.inl ⟨by rfl, ?_⟩) (by assumption) ?_
      rotate_left 1
      · (intro w hSw; (try dsimp only at hSw); go_simp) <;> (with_reducible rfl)
      try simp only [Act.put, List.setIfInBounds_toArray, List.set_cons_zero, List.set_cons_succ]
      refine wpAnyH_take (i := 12) (oi := ⟨some 5, _, _, _, _, _⟩) (v := ?_) rfl (by kernel_rfl) (by kernel_rfl) (by kernel_rfl) (fun _ _ _ h => h) (Or.inl ⟨by rfl, ?_⟩) (by assumption) ?_
      rotate_left 1
      · (intro w hSw; (try dsimp only at hSw); go_simp) <;> (with_reducible rfl)
      try simp only [Act.put, List.setIfInBounds_toArray, List.set_cons_zero, List.set_cons_succ]
      refine wpAnyH_done (by kernel_rfl) ?_ _
      have HF4 : Hid (Fr NoBlk wr w4) := ((Fr.refl NoBlk wr).drew).trans HG4.out.got.fr
      clear c0 HRD HFI hHeld
      cases hpf : pfind p.files nk with
      | none =>
        have hr2 := HRP.out.trans (read_none HON.out hpf)
        injection hr2 with hr3 hr4
        subst hr3 hr4
        have HZ : Hid (LReadPost w w0 gd gl (lread 10 p 0 L0) S (.returned (.int .i64 0)) w4) := by
          have h := HLR.out
          rw [HLA.out.rd, ← HNM.out, ← HNK.out, hpf] at h
          rw [h]
          exact ⟨rfl, HLA.out.wl.nofr HF4.out, HLA.out.fr.trans (HF4.out.mono fun _ _ h => h.elim)⟩
        clear hpf HG4
        simp only [List.length_nil]
        go_wp2_with fail
        go_ret
        exact HZ.out
      | some x =>
        have hr2 := HRP.out.trans (read_some HON.out hpf)
        injection hr2 with hr3 hr4
        subst hr4
        have hrl : rd.length ≤ 1048576 := by
          rw [hr3]
          have h1 := find_len hpf
          have h2 := HAG.out.fits
          omega
        have HPF : Hid (pfind p.files nk = some x) := hpf
        have HRX : Hid (rd = x.data) := hr3
        have HW4 : Hid (WL w w4 gd p gl L fun j => S j ∨ (0 < rd.length ∧ ablk A4 j)) := by
          refine HLA.out.wl.widen HF4.out (fun j hj => ?_) (fun j hj => ?_)
          · rcases hj with hj | ⟨hp, b, hb, rfl⟩
            · exact .inl hj
            · obtain ⟨g0, e, hg0⟩ := HG4.out.got.new hp
              rw [e] at hb
              injection hb with hb
              subst hb
              exact .inr hg0
          · rcases hj with hj | ⟨hp, hb⟩
            · exact Nat.lt_of_lt_of_le (HTG.out j hj) HF4.out.size
            · exact HG4.out.got.rd.lt (by rw [cb_length]; exact hp) hb
        have HTK := Lib.hid (take_any w w4 gd gl p L _ HW4.out HT.out A4 c4 rd HG4.out.got.rd (fun hp => by
          obtain ⟨g0, e, _⟩ := HG4.out.got.new hp
          exact ⟨g0, e, .inr ⟨hp, _, e, rfl⟩⟩) HG4.out.got.le hrl (by have := HLA.out.few; omega))
        have HPL := Lib.hid (parse_le rd.length rd (Nat.le_refl _))
        clear hpf hr3 HRP HG4 HAG HSG HTG HLG HGP
        go_wp2_with fail
        refine HTK.out.mono ?_
        clear HTK
        rintro e w5 ⟨rfl, hw5, hf5⟩
        obtain ⟨pc, hpc⟩ : ∃ pc, pc = parse rd := ⟨_, rfl⟩
        rw [← hpc] at hw5 HPL
        have HPC : Hid (pc = parse x.data) := hpc.trans (by rw [HRX.out])
        rw [← hpc]
        clear hpc
        obtain ⟨pr, pn⟩ := pc
        have hpn : pn ≤ rd.length := HPL.out.1
        obtain ⟨g5, hg5, hl5, ha5, hs5, ht5⟩ := hw5
        dsimp only at hg5
        have b5 := hl5.bk
        have d0 : w5.cell? ⟨gl, 0, none⟩ = some (.pointer (some ⟨gd, 0, none⟩)) := b5.cell 0
        have d3 : w5.cell? ⟨gl, 3, none⟩ = some (.int .i64 g5.last) := b5.cell 3
        have d4 : w5.cell? ⟨gl, 4, none⟩ = some (.int .i64 g5.used) := b5.cell 4
        have z3 := b5.free 3
        have z4 := b5.free 4
        have HSET := Lib.hid (WL.set (g' := { g5 with last := k, used := pn }) (w' := (w5.setCell ⟨gl, 3, none⟩ (.int .i64 k)).setCell ⟨gl, 4, none⟩ (.int .i64 pn)) hg5 hl5 ha5 hs5 ht5
          (((Fr.refl (fun j => j = gl) w5).setCell (p := ⟨gl, 3, none⟩) (fun _ => rfl) _).setCell (p := ⟨gl, 4, none⟩) (fun _ => rfl) _) ((b5.put 3 (.int .i64 k)).put 4 (.int .i64 pn)) rfl rfl rfl rfl (by show k ≤ 9; omega) (by show pn ≤ 2000000; omega))
        have HPLG : Hid (Lg.pl { g5 with last := k, used := pn } = L.got k (pr, pn)) := by
          have h1 : g5.pl = L.with pr := hg5
          show (⟨g5.name, g5.size, k, pn, g5.waits, g5.parts.map (·.2.2)⟩ : PL) = ⟨L.name, L.size, k, pn, L.waits, L.recs ++ pr⟩
          unfold Lg.pl PL.with at h1
          injection h1 with e1 e2 e3 e4 e5 e6
          rw [e1, e2, e5, e6]
        rw [HPLG.out] at HSET
        have HF5 : Hid (Fr (Loose w S) w0 w5) := (HLA.out.fr.trans (HF4.out.mono fun _ _ h => h.elim)).trans (hf5.less fun j hj => .inl hj)
        have HFEW := Lib.hid HLA.out.few
        have HRD2 := Lib.hid HLA.out.rd
        clear hg5 hl5 ha5 hs5 ht5 b5 hf5 HW4 HLA HB
        by_cases hcut : pn < rd.length
        · have f1 : (pn : Int) < (rd.length : Int) := by omega
          have hW7 := HSET.out.1
          have HFR7 := Lib.hid (HF5.out.trans (HSET.out.2.less (S := S) fun j hj => .inl hj))
          have HFIN : Hid (lread 10 p 0 L0 = ((pCut p nk pn).1, L.got k (pr, pn))) := by
            have h := HLR.out
            rw [HRD2.out, ← HNM.out, ← HNK.out, HPF.out] at h
            dsimp only at h
            rw [if_pos (by rw [← HPC.out, ← HRX.out]; exact hcut), ← HPC.out] at h
            exact h
          have HC0 : Hid ((pCut p nk (pn : Int)).2 = 0) := cut_on HON.out HPF.out (by rw [← HRX.out]; exact hpn)
          clear HSET HPF HRX HPC HLR HRD2
          go_wp2_with fail
          generalize (w5.setCell ⟨gl, 3, none⟩ (.int .i64 k)).setCell ⟨gl, 4, none⟩ (.int .i64 pn) = w7 at *
          obtain ⟨g7, hg7, hl7, ha7, hs7, ht7⟩ := hW7
          have HN7 : Hid (lfile g7.name k = nk) := by
            have e : g7.name = L.name := congrArg PL.name hg7
            show _ = _
            rw [e, HNK.out, HNM.out]
          have k0 : w7.cell? ⟨gl, 0, none⟩ = some (.pointer (some ⟨gd, 0, none⟩)) := hl7.bk.cell 0
          have k4 : w7.cell? ⟨gl, 4, none⟩ = some (.int .i64 pn) := by
            have h := hl7.bk.cell 4
            have e : g7.used = pn := congrArg PL.used hg7
            rw [← e]
            exact h
          have HB7 := Lib.hid hl7.bk
          have HFI7 := Lib.hid fun W (hb : Bk W gl 192 (g7.cells gd)) => file_any W gd gl g7 hb hl7.nm k (by omega)
          have hnkl : nk.length ≤ maxLen := by rw [← HN7.out, lfile_len]; have := hl7.nm; unfold maxLen; omega
          have hml := Mine.lt hl7 ht7
          have HCU := Lib.hid fun W (hf : Fr NoBlk w7 W) => cutS (ha7.nofr hf) (fun j hj => Nat.lt_of_lt_of_le (hml j hj) hf.size) nk hnkl (pn : Int)
          have HG7 := Lib.hid hg7
          have HL7 := Lib.hid hl7
          have HS7 := Lib.hid hs7
          have HT7 := Lib.hid ht7
          clear hg7 hl7 ha7 hs7 ht7 hnkl hml d0 d3 d4 z3 z4
          refine wp_region_held_drew (S := fun w' => w'.cell? ⟨gl, 0, none⟩ = some (.pointer (some ⟨gd, 0, none⟩)) ∧ w'.cell? ⟨gl, 4, none⟩ = some (.int .i64 (pn : Int))) (by kernel_rfl) (by exact ⟨k0, k4⟩) (fun hHeld => ?_)
          refine wpAnyH_take (i := 0) (oi := ⟨some 42, _, _, _, _, _⟩) (v := ?_) rfl (by kernel_rfl) (by kernel_rfl) (by kernel_rfl) (fun _ _ _ h => h) (Or.inl ⟨by rfl, ?_⟩) (by assumption) ?_
          rotate_left 1
          · (intro w hSw; (try dsimp only at hSw); go_simp) <;> (with_reducible rfl)
          try simp only [Act.put, List.setIfInBounds_toArray, List.set_cons_zero, List.set_cons_succ]
          refine wpAnyH_take (i := 1) (oi := ⟨some 43, _, _, _, _, _⟩) (v := ?_) rfl (by kernel_rfl) (by kernel_rfl) (by kernel_rfl) (fun _ _ _ h => h) (Or.inl ⟨by rfl, ?_⟩) (by assumption) ?_
          rotate_left 1
          · (intro w hSw; (try dsimp only at hSw); go_simp) <;> (with_reducible rfl)
          try simp only [Act.put, List.setIfInBounds_toArray, List.set_cons_zero, List.set_cons_succ]
          refine wpAnyH_take (i := 2) (oi := ⟨some 44, _, _, _, _, _⟩) (v := ?_) rfl (by kernel_rfl) (by kernel_rfl) (by kernel_rfl) (fun _ _ _ h => h) (Or.inl ⟨by rfl, ?_⟩) (by assumption) ?_
          rotate_left 1
          · (intro w hSw; (try dsimp only at hSw); go_simp) <;> (with_reducible rfl)
          try simp only [Act.put, List.setIfInBounds_toArray, List.set_cons_zero, List.set_cons_succ]
          refine wpAnyH_take (i := 3) (oi := ⟨some 45, _, _, _, _, _⟩) (v := ?_) rfl (by kernel_rfl) (by kernel_rfl) (by kernel_rfl) (fun _ _ _ h => h) (Or.inl ⟨by rfl, ?_⟩) (by assumption) ?_
          rotate_left 1
          · (intro w hSw; (try dsimp only at hSw); go_simp) <;> (with_reducible rfl)
          try simp only [Act.put, List.setIfInBounds_toArray, List.set_cons_zero, List.set_cons_succ]
          refine wpAnyH_take (i := 4) (oi := ⟨some 46, _, _, _, _, _⟩) (v := ?_) rfl (by kernel_rfl) (by kernel_rfl) (by kernel_rfl) (fun _ _ _ h => h) (Or.inl ⟨by rfl, ?_⟩) (by assumption) ?_
          rotate_left 1
          · (intro w hSw; (try dsimp only at hSw); go_simp) <;> (with_reducible rfl)
          try simp only [Act.put, List.setIfInBounds_toArray, List.set_cons_zero, List.set_cons_succ]
          refine wpAnyH_take (i := 5) (oi := ⟨some 47, _, _, _, _, _⟩) (v := ?_) rfl (by kernel_rfl) (by kernel_rfl) (by kernel_rfl) (fun _ _ _ h => h) (Or.inl ⟨by rfl, ?_⟩) (by assumption) ?_
          rotate_left 1
          · (intro w hSw; (try dsimp only at hSw); go_simp) <;> (with_reducible rfl)
          try simp only [Act.put, List.setIfInBounds_toArray, List.set_cons_zero, List.set_cons_succ]
          refine wpAnyH_take (i := 7) (oi := ⟨some 49, _, _, _, _, _⟩) (v := ?_) rfl (by kernel_rfl) (by kernel_rfl) (by kernel_rfl) (fun _ _ _ h => h) (Or.inl ⟨by rfl, ?_⟩) (by assumption) ?_
          rotate_left 1
          · (intro w hSw; (try dsimp only at hSw); go_simp) <;> (with_reducible rfl)
          try simp only [Act.put, List.setIfInBounds_toArray, List.set_cons_zero, List.set_cons_succ]
          refine wpAnyH_take (i := 8) (oi := ⟨some 50, _, _, _, _, _⟩) (v := ?_) rfl (by kernel_rfl) (by kernel_rfl) (by kernel_rfl) (fun _ _ _ h => h) (Or.inl ⟨by rfl, ?_⟩) (by assumption) ?_
          rotate_left 1
          · (intro w hSw; (try dsimp only at hSw); go_simp) <;> (with_reducible rfl)
          try simp only [Act.put, List.setIfInBounds_toArray, List.set_cons_zero, List.set_cons_succ]
          refine wpAnyH_take (i := 9) (oi := ⟨some 51, _, _, _, _, _⟩) (v := ?_) rfl (by kernel_rfl) (by kernel_rfl) (by kernel_rfl) (fun _ _ _ h => h) (Or.inl ⟨by rfl, ?_⟩) (by assumption) ?_
          rotate_left 1
          · (intro w hSw; (try dsimp only at hSw); go_simp) <;> (with_reducible rfl)
          try simp only [Act.put, List.setIfInBounds_toArray, List.set_cons_zero, List.set_cons_succ]
          refine wpAnyH_take (i := 10) (oi := ⟨some 52, _, _, _, _, _⟩) (v := ?_) rfl (by kernel_rfl) (by kernel_rfl) (by kernel_rfl) (fun _ _ _ h => h) (Or.inl ⟨by rfl, ?_⟩) (by assumption) ?_
          rotate_left 1
          · (intro w hSw; (try dsimp only at hSw); go_simp) <;> (with_reducible rfl)
          try simp only [Act.put, List.setIfInBounds_toArray, List.set_cons_zero, List.set_cons_succ]
          refine wpAnyH_ready (rs := [6]) (by kernel_rfl) (by simp) ?_
          refine AllReadyH.cons (o := ⟨some 48, _, _, _, _, _⟩) rfl (fun K hK => ?_) AllReadyH.nil
          go_simp
          go_at_call 123
          refine (HFI7.out _ HB7.out.drew).mono ?_
          rintro e w8 ⟨rfl, rfl⟩
          rw [HN7.out]
          go_wp2_with fail
          refine hK.out _ _ ?_ (fun hHeld => ?_)
          · first | exact ⟨k0, k4⟩ | exact ⟨k09, k49⟩
          clear hK K
          try simp only [Act.put, List.setIfInBounds_toArray, List.set_cons_zero, List.set_cons_succ]
          refine wpAnyH_ready (rs := [11]) (by kernel_rfl) (by simp) ?_
          refine AllReadyH.cons (o := ⟨some 53, _, _, _, _, _⟩) rfl (fun K hK => ?_) AllReadyH.nil
          go_simp
          go_at_call 144
          refine (HCU.out _ (Fr.refl _ _).drew).mono ?_
          rintro e w9 ⟨rfl, ha9, hf9⟩
          have HW9 := Lib.hid (WL.disk HG7.out (HL7.out.fr ((Fr.refl NoBlk w7).drew) fun _ _ h => h) HS7.out HT7.out ha9 hf9)
          have HLG9 : Hid (Fr (Loose w fun j => S j ∨ (0 < rd.length ∧ ablk A4 j)) w7 w9) := ((Fr.refl _ w7).drew).trans HW9.out.2
          have k09 : w9.cell? ⟨gl, 0, none⟩ = some (.pointer (some ⟨gd, 0, none⟩)) := by
            obtain ⟨gz, _, hlz, _⟩ := HW9.out.1
            exact hlz.bk.cell 0
          have k49 : w9.cell? ⟨gl, 4, none⟩ = some (.int .i64 pn) := by
            obtain ⟨gz, hgz, hlz, _⟩ := HW9.out.1
            have h := hlz.bk.cell 4
            have e : gz.used = pn := congrArg PL.used hgz
            rw [← e]
            exact h
          clear ha9 hf9
          rw [HC0.out]
          go_wp2_with fail
          refine hK.out _ _ ?_ (fun hHeld => ?_)
          · first | exact ⟨k0, k4⟩ | exact ⟨k09, k49⟩
          clear hK K
          try simp only [Act.put, List.setIfInBounds_toArray, List.set_cons_zero, List.set_cons_succ]
          refine wpAnyH_take (i := 12) (oi := ⟨some 2, _, _, _, _, _⟩) (v := ?_) rfl (by kernel_rfl) (by kernel_rfl) (by kernel_rfl) (fun _ _ _ h => h) (Or.inl ⟨by rfl, ?_⟩) (by assumption) ?_
          rotate_left 1
          · (intro w hSw; (try dsimp only at hSw); go_simp) <;> (with_reducible rfl)
          try simp only [Act.put, List.setIfInBounds_toArray, List.set_cons_zero, List.set_cons_succ]
          refine wpAnyH_done (by kernel_rfl) ?_ _
          have HZ : Hid (LReadPost w w0 gd gl (lread 10 p 0 L0) S (.returned (.int .i64 0)) w9) := by
            rw [HFIN.out]
            exact ⟨rfl, HW9.out.1.less fun j hj => .inl hj, HFR7.out.trans (HLG9.out.less fun j hj => .inl hj)⟩
          go_wp2_with fail
          go_ret
          exact HZ.out
        · have HNX : Hid (∃ L, ReadAt w w0 ((w5.setCell ⟨gl, 3, none⟩ (.int .i64 k)).setCell ⟨gl, 4, none⟩ (.int .i64 pn)) gd gl p L0 S (k + 1) L) := by
            refine ⟨_, HSET.out.1.less fun j hj => .inl hj, HF5.out.trans (HSET.out.2.less fun j hj => .inl hj), ?_, ?_⟩
            · have h := HLR.out
              rw [HRD2.out, ← HNM.out, ← HNK.out, HPF.out] at h
              dsimp only at h
              rw [if_neg (by rw [← HPC.out, ← HRX.out]; exact hcut), ← HPC.out] at h
              exact h.symm
            · show (L.recs ++ pr).length ≤ _
              rw [List.length_append]
              have h1 := HFEW.out
              have h2 : pr.length ≤ rd.length := HPL.out.2.1
              omega
          have f1 : ¬ (pn : Int) < (rd.length : Int) := by omega
          clear HSET HPF HRX HPC
          generalize rd.length = rl at *
          go_wp2_with fail
          go_roundw
          case rel => exact ⟨k + 1, by omega, by go_num, HNX⟩
          case measure => simp [intOf]; omega
    · have HZ : Hid (LReadPost w w0 gd gl (lread 10 p 0 L0) S (.returned (.int .i64 0)) wr) := by
        obtain rfl : k = 10 := by omega
        have h := hL.rd
        refine ⟨rfl, ?_, hL.fr⟩
        rw [← h]
        exact hL.wl
      clear hL HX
      go_wp2_with fail
      go_ret
      exact HZ.out
end Go.Proofs.YtafiokabnlmgpaaGreatDoor
