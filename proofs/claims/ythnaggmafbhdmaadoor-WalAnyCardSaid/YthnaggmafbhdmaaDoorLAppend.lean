/- The log's Append. Conditions: the record is no longer than a frame takes, and lies in other memory than the disk and the log. -/
import Derived.Test.YthnaggmafbhdmaaDoorLAppendP
import Derived.BigQuiet
import Derived.Deep.QuietTactic
namespace Go.Proofs.YthnaggmafbhdmaaDoor
open Go.RowKit Go.Maps

set_option maxRecDepth 100000 in
set_option maxHeartbeats 8000000 in
theorem lappend_any (w w0 : World) (gd gl : Nat) (p : PD) (L : PL) (S : Nat → Prop) (h : WL w w0 gd p gl L S) (ht : Tab w) (A : Option Addr) (c : Nat) (r : Bs) (hr : Rd w0 A (cb r)) (hA : A = none → c = 0) (hrl : r.length ≤ 4096) (hsafe : 0 < r.length → ∀ k, ablk A k → k < w.heap.size ∨ S k) (hrec : L.recs.length ≤ 19000000) (hused : L.used ≤ 1048576) :
    Calls Tryd.prog 12 #[.pointer (some ⟨gl, 0, none⟩), .slice A r.length c] w0 (LPost w w0 gd gl (lappend p L r) S) := by
  have HW := Lib.hid h
  have HK := Lib.hid (frame_any w0 (h.tab ht) A r.length c r rfl hr hA hrl)
  have HRR0 := Lib.hid hr
  have HAC := Lib.hid hA
  have HRECL := Lib.hid hrec
  obtain ⟨i0, hi, hz0, hz1, hz2⟩ := info_parts bytesInfo
  have HSF := Lib.hid hsafe
  obtain ⟨rr, hrr⟩ : ∃ rr, rr = lappend p L r := ⟨_, rfl⟩
  rw [← hrr]
  have HRRQ := Lib.hid hrr
  clear h ht hr hA hrec hsafe hrr
  go_enter Tryd.func12, Tryd.ntmps12
  go_wp2_with fail
  refine HK.out.mono ?_
  clear HK
  rintro e w1 ⟨v1, rfl, hn1⟩
  obtain ⟨A1, c1, rfl, hc1, hA1⟩ := own_form hn1.own
  obtain ⟨fo, hfo⟩ : ∃ fo, fo = frameOf r := ⟨_, rfl⟩
  have HFO := Lib.hid hfo
  have HFL : Hid (fo.length = 6 + r.length) := by show _ = _; rw [hfo, frameOf_len]
  rw [← hfo] at hn1 ⊢
  have HN1 := Lib.hid hn1
  have HA1 := Lib.hid hA1
  clear hn1 hc1 hA1 hfo
  obtain ⟨g0, hg0, hl0, ha0, hs0, ht0⟩ := HW.out
  have b1 := hl0.bk.fr HN1.out.fr fun h => h
  have c3 : w1.cell? ⟨gl, 3, none⟩ = some (.int .i64 L.last) := by rw [← congrArg PL.last hg0]; exact b1.cell 3
  have c4 : w1.cell? ⟨gl, 4, none⟩ = some (.int .i64 L.used) := by rw [← congrArg PL.used hg0]; exact b1.cell 4
  have c2 : w1.cell? ⟨gl, 2, none⟩ = some (.int .i64 L.size) := by rw [← congrArg PL.size hg0]; exact b1.cell 2
  have hl9 : L.last ≤ 9 := by rw [← congrArg PL.last hg0]; exact hl0.lst
  have hszb : L.size ≤ 65536 := by rw [← congrArg PL.size hg0]; exact hl0.sz
  have HT0 := Lib.hid ht0
  clear hg0 hl0 ha0 hs0 ht0 b1
  have hfl4 : fo.length ≤ 4102 := by rw [HFL.out]; omega
  go_wp2_with fail
  go_quiet (fail)
  have HFQ : Hid (Fr NoBlk w0 (w1.drewN nq)) := HN1.out.fr.trans ((Fr.refl _ _).drewN nq)
  have HRF2 : Hid (Rd (w1.drewN nq) A1 (cb fo)) := (Rd.of_own HN1.out.own).nofr ((Fr.refl _ _).drewN nq)
  have e2 : (w1.drewN nq).cell? ⟨gl, 2, none⟩ = some (.int .i64 L.size) := c2
  have HBLK : Hid (∀ k, ablk A1 k → w0.heap.size ≤ k ∧ k < (w1.drewN nq).heap.size) := by
    rintro k ⟨a, rfl, rfl⟩
    exact own_lt HN1.out.own (k := a.block) rfl
  clear c2 c3 c4 HN1
  generalize w1.drewN nq = w2 at *
  obtain ⟨S', hS'⟩ : ∃ S' : Nat → Prop, S' = fun k => S k ∨ ablk A1 k := ⟨_, rfl⟩
  have HSUB : Hid (∀ k, S k → S' k) := by rw [hS']; exact fun k hk => .inl hk
  have HSA1 : Hid (∀ k, ablk A1 k → S' k) := by rw [hS']; exact fun k hk => .inr hk
  have HW2 : Hid (WL w w2 gd p gl L S') := HW.out.widen HFQ.out (fun k hk => by
    rw [hS'] at hk
    exact hk.imp id fun h => (HBLK.out k h).1) fun k hk => by
    rw [hS'] at hk
    exact hk.elim (fun h => Nat.lt_of_lt_of_le (HT0.out k h) HFQ.out.size) fun h => (HBLK.out k h).2
  have HSAFE : Hid (0 < r.length → ∀ k, ablk A k → k < w.heap.size ∨ S' k) := fun hp k hk => (HSF.out hp k hk).imp id (HSUB.out k)
  have HRR2 : Hid (Rd w2 A (cb r)) := HRR0.out.nofr HFQ.out
  clear hS' HT0 HBLK HSF HW
  by_cases hbig : 0 < L.used ∧ L.size < L.used + fo.length
  · by_cases h9 : L.last = 9
    · have HZ : Hid (LPost w w0 gd gl rr S (.returned (.int .i64 2)) w2) := by
        have e : rr = (p, L, 2) := by
          rw [HRRQ.out]
          unfold lappend
          rw [← HFO.out, if_pos hbig, if_pos h9]
        rw [e]
        exact ⟨rfl, HW2.out.less fun k hk => HSUB.out k hk, HFQ.out.mono fun _ _ h => h.elim⟩
      obtain ⟨hb1, hb2⟩ := hbig
      clear HW2
      generalize L.last = la at *
      subst h9
      go_wp2_with fail
      go_ret
      exact HZ.out
    · have HSY := Lib.hid (lsync_any w w2 gd gl p L S' HW2.out)
      have HQ : Hid (rr = if (lsync p L).2.2 = 0 then lput (lsync p L).1 (lsync p L).2.1 (L.last + 1) 0 r else lsync p L) := by
        show _ = _
        rw [HRRQ.out]
        unfold lappend
        rw [← HFO.out, if_pos hbig, if_neg h9]
      have HLS : Hid ((lsync p L).2.1.recs = L.recs) := by
        show _ = _
        unfold lsync
        split <;> rfl
      obtain ⟨hb1, hb2⟩ := hbig
      have h9' : L.last + 1 ≤ 9 := by omega
      generalize lsync p L = s at *
      clear HW2
      go_wp2_with fail
      refine HSY.out.mono ?_
      clear HSY
      rintro e w4 ⟨rfl, hw4, hf4⟩
      obtain ⟨p4, L4, z4⟩ := s
      dsimp only at hw4 HQ HLS ⊢
      by_cases hz4 : z4 = 0
      · have HPRE0 : Hid (rr = lput p4 L4 (L.last + 1) 0 r) := by show _ = _; rw [HQ.out, if_pos hz4]
        subst hz4
        obtain ⟨g, hg, hlg, hag, hsg, htg⟩ := hw4
        subst hg
        have HPRE := HPRE0
        have HLG := Lib.hid hlg
        have HAG := Lib.hid hag
        have HSG := Lib.hid hsg
        have HTG := Lib.hid htg
        have HRF : Hid (Rd w4 A1 (cb fo)) := HRF2.out.fr hf4 fun k hk hc => hc.1 (HSA1.out k hk)
        have HRR : Hid (Rd w4 A (cb r)) := HRR2.out.fr' hf4 fun hp k hk hc => by
          rcases HSAFE.out (by rw [← cb_length]; exact hp) k hk with h | h
          · have := hc.2; omega
          · exact hc.1 h
        have HF04 : Hid (Fr (Loose w S) w0 w4) := (HFQ.out.mono fun _ _ h => h.elim).trans (hf4.less fun k hk => HSUB.out k hk)
        have HREC : Hid (g.pl.recs.length ≤ 19000000) := by show _ ≤ _; rw [HLS.out]; exact HRECL.out
        clear hlg hag hsg htg hf4 HPRE0 HQ HLS e2
        obtain ⟨part, hpart⟩ : ∃ part, part = L.last + 1 := ⟨_, rfl⟩
        obtain ⟨used, husd⟩ : ∃ used : Nat, used = 0 := ⟨_, rfl⟩
        have hub : used ≤ 1048576 := by omega
        have hp9 : part ≤ 9 := by omega
        have hpe : (L.last : Int) + 1 = (part : Int) := by omega
        have hue : (0 : Int) = (used : Int) := by omega
        rw [← hpart, ← husd] at HPRE
        clear hpart husd
        have c0 : w4.cell? ⟨gl, 0, none⟩ = some (.pointer (some ⟨gd, 0, none⟩)) := HLG.out.bk.cell 0
        have HFI := Lib.hid fun W (hb : Bk W gl 52 (g.cells gd)) => file_any W gd gl g hb HLG.out.nm part hp9
        have hlf : (lfile g.name part).length ≤ maxLen := by rw [lfile_len]; have := HLG.out.nm; unfold maxLen; omega
        have hml := Mine.lt HLG.out HTG.out
        have HAP := Lib.hid fun W (hf : Fr NoBlk w4 W) => appendS (HAG.out.nofr hf) (fun j hj => Nat.lt_of_lt_of_le (hml j hj) hf.size) (lfile g.name part) hlf A1 fo.length c1 fo rfl (HRF.out.nofr hf) HA1.out (by rw [HFL.out]; unfold maxLen; omega)
        have HPR : Hid (rr = lput p4 g.pl part used r) := HPRE.out
        have HLP : Hid (lput p4 g.pl part used r = if (pAppend p4 (lfile g.name part) fo).2 = 0 then ((pAppend p4 (lfile g.name part) fo).1, { g.pl with last := part, used := used + fo.length, waits := true, recs := g.pl.recs ++ [r] }, 0) else ((pAppend p4 (lfile g.name part) fo).1, g.pl, (pAppend p4 (lfile g.name part) fo).2)) := by
          show _ = _
          rw [HFO.out]
          rfl
        clear hlf hml HPRE
        obtain ⟨nk, hnk⟩ : ∃ nk, nk = lfile g.name part := ⟨_, rfl⟩
        rw [← hnk] at HFI HAP HLP
        clear hnk
        go_wp2_with fail
        refine wp_region_held_drew (S := fun w' => w'.cell? ⟨gl, 0, none⟩ = some (.pointer (some ⟨gd, 0, none⟩))) (by kernel_rfl) (by exact c0) (fun hHeld => ?_)
        refine wpAnyH_take (i := 0) (oi := ⟨some 49, _, _, _, _, _⟩) (v := ?_) rfl (by kernel_rfl) (by kernel_rfl) (by kernel_rfl) (fun _ _ _ h => h) (Or.inl ⟨by rfl, ?_⟩) (by assumption) ?_
        rotate_left 1
        · (intro w hSw; (try dsimp only at hSw); go_simp) <;> (with_reducible rfl)
        try simp only [Act.put, List.setIfInBounds_toArray, List.set_cons_zero, List.set_cons_succ]
        refine wpAnyH_take (i := 1) (oi := ⟨some 50, _, _, _, _, _⟩) (v := ?_) rfl (by kernel_rfl) (by kernel_rfl) (by kernel_rfl) (fun _ _ _ h => h) (Or.inl ⟨by rfl, ?_⟩) (by assumption) ?_
        rotate_left 1
        · (intro w hSw; (try dsimp only at hSw); go_simp) <;> (with_reducible rfl)
        try simp only [Act.put, List.setIfInBounds_toArray, List.set_cons_zero, List.set_cons_succ]
        refine wpAnyH_take (i := 2) (oi := ⟨some 51, _, _, _, _, _⟩) (v := ?_) rfl (by kernel_rfl) (by kernel_rfl) (by kernel_rfl) (fun _ _ _ h => h) (Or.inl ⟨by rfl, ?_⟩) (by assumption) ?_
        rotate_left 1
        · (intro w hSw; (try dsimp only at hSw); go_simp) <;> (with_reducible rfl)
        try simp only [Act.put, List.setIfInBounds_toArray, List.set_cons_zero, List.set_cons_succ]
        refine wpAnyH_take (i := 3) (oi := ⟨some 52, _, _, _, _, _⟩) (v := ?_) rfl (by kernel_rfl) (by kernel_rfl) (by kernel_rfl) (fun _ _ _ h => h) (Or.inl ⟨by rfl, ?_⟩) (by assumption) ?_
        rotate_left 1
        · (intro w hSw; (try dsimp only at hSw); go_simp) <;> (with_reducible rfl)
        try simp only [Act.put, List.setIfInBounds_toArray, List.set_cons_zero, List.set_cons_succ]
        refine wpAnyH_take (i := 4) (oi := ⟨some 53, _, _, _, _, _⟩) (v := ?_) rfl (by kernel_rfl) (by kernel_rfl) (by kernel_rfl) (fun _ _ _ h => h) (Or.inl ⟨by rfl, ?_⟩) (by assumption) ?_
        rotate_left 1
        · (intro w hSw; (try dsimp only at hSw); go_simp) <;> (with_reducible rfl)
        try simp only [Act.put, List.setIfInBounds_toArray, List.set_cons_zero, List.set_cons_succ]
        refine wpAnyH_take (i := 5) (oi := ⟨some 54, _, _, _, _, _⟩) (v := ?_) rfl (by kernel_rfl) (by kernel_rfl) (by kernel_rfl) (fun _ _ _ h => h) (Or.inl ⟨by rfl, ?_⟩) (by assumption) ?_
        rotate_left 1
        · (intro w hSw; (try dsimp only at hSw); go_simp) <;> (with_reducible rfl)
        try simp only [Act.put, List.setIfInBounds_toArray, List.set_cons_zero, List.set_cons_succ]
        refine wpAnyH_take (i := 7) (oi := ⟨some 56, _, _, _, _, _⟩) (v := ?_) rfl (by kernel_rfl) (by kernel_rfl) (by kernel_rfl) (fun _ _ _ h => h) (Or.inl ⟨by rfl, ?_⟩) (by assumption) ?_
        rotate_left 1
        · (intro w hSw; (try dsimp only at hSw); go_simp) <;> (with_reducible rfl)
        try simp only [Act.put, List.setIfInBounds_toArray, List.set_cons_zero, List.set_cons_succ]
        refine wpAnyH_ready (rs := [6]) (by kernel_rfl) (by simp) ?_
        refine AllReadyH.cons (o := ⟨some 55, _, _, _, _, _⟩) rfl (fun K hK => ?_) AllReadyH.nil
        go_simp
        go_at_call 23
        refine (HFI.out _ HLG.out.bk.drew).mono ?_
        rintro e w5 ⟨rfl, rfl⟩
        go_wp2_with fail
        refine hK.out _ _ ?_ (fun hHeld => ?_)
        · first | exact c0 | exact k06
        clear hK K
        try simp only [Act.put, List.setIfInBounds_toArray, List.set_cons_zero, List.set_cons_succ]
        refine wpAnyH_ready (rs := [8]) (by kernel_rfl) (by simp) ?_
        refine AllReadyH.cons (o := ⟨some 57, _, _, _, _, _⟩) rfl (fun K hK => ?_) AllReadyH.nil
        go_simp
        go_at_call 15
        refine (HAP.out _ (Fr.refl _ _).drew).mono ?_
        rintro e w6 ⟨rfl, ha6, hf6⟩
        have HA6 := Lib.hid ha6
        have HL6 : Hid (LgIn w6 w.heap.size gd gl g) := (HLG.out.fr ((Fr.refl NoBlk w4).drew) fun _ _ h => h).fr hf6 fun k hk hc => hc.1 (.inl hk)
        have HF6 : Hid (Fr (Loose w S') w4 w6) := ((Fr.refl _ w4).drew).trans (hf6.mono fun k _ hk => ⟨fun h => hk.1 (.inr h), hk.2⟩)
        have HT6 : Hid (∀ k, S' k → k < w6.heap.size) := fun k hk => Nat.lt_of_lt_of_le (HTG.out k hk) HF6.out.size
        have k06 : w6.cell? ⟨gl, 0, none⟩ = some (.pointer (some ⟨gd, 0, none⟩)) := HL6.out.bk.cell 0
        clear ha6 hf6 hHeld
        generalize (pAppend p4 nk fo).1 = p6 at *
        generalize (pAppend p4 nk fo).2 = z at *
        go_wp2_with fail
        refine hK.out _ _ ?_ (fun hHeld => ?_)
        · first | exact c0 | exact k06
        clear hK K
        try simp only [Act.put, List.setIfInBounds_toArray, List.set_cons_zero, List.set_cons_succ]
        refine wpAnyH_take (i := 9) (oi := ⟨some 10, _, _, _, _, _⟩) (v := ?_) rfl (by kernel_rfl) (by kernel_rfl) (by kernel_rfl) (fun _ _ _ h => h) (Or.inl ⟨by rfl, ?_⟩) (by assumption) ?_
        rotate_left 1
        · (intro w hSw; (try dsimp only at hSw); go_simp) <;> (with_reducible rfl)
        try simp only [Act.put, List.setIfInBounds_toArray, List.set_cons_zero, List.set_cons_succ]
        refine wpAnyH_done (by kernel_rfl) ?_ _
        have hfl4 : fo.length ≤ 4102 := by rw [HFL.out]; omega
        by_cases hz : z = 0
        · have HLP2 : Hid (rr = (p6, { g.pl with last := part, used := used + fo.length, waits := true, recs := g.pl.recs ++ [r] }, 0)) := by show _ = _; rw [HPR.out, HLP.out, if_pos hz]
          subst hz
          have b6 := HL6.out.bk
          have d3 : w6.cell? ⟨gl, 3, none⟩ = some (.int .i64 g.last) := b6.cell 3
          have d4 : w6.cell? ⟨gl, 4, none⟩ = some (.int .i64 g.used) := b6.cell 4
          have d5 : w6.cell? ⟨gl, 5, none⟩ = some (.bool g.waits) := b6.cell 5
          have z3 := b6.free 3
          have z4 := b6.free 4
          have z5 := b6.free 5
          have hf7 : Fr (fun j => j = gl) w6 (((w6.setCell ⟨gl, 3, none⟩ (.int .i64 part)).setCell ⟨gl, 4, none⟩ (.int .i64 ((used : Int) + (fo.length : Int)))).setCell ⟨gl, 5, none⟩ (.bool true)) := (((Fr.refl (fun j => j = gl) w6).setCell (p := ⟨gl, 3, none⟩) (fun _ => rfl) _).setCell (p := ⟨gl, 4, none⟩) (fun _ => rfl) _).setCell (p := ⟨gl, 5, none⟩) (fun _ => rfl) _
          have hb7 : Bk (((w6.setCell ⟨gl, 3, none⟩ (.int .i64 part)).setCell ⟨gl, 4, none⟩ (.int .i64 ((used : Int) + (fo.length : Int)))).setCell ⟨gl, 5, none⟩ (.bool true)) gl 52 (Lg.cells gd { g with last := part, used := used + fo.length, waits := true }) := by
            have h := ((b6.put 3 (.int .i64 part)).put 4 (.int .i64 ((used : Int) + (fo.length : Int)))).put 5 (.bool true)
            rw [show (used : Int) + (fo.length : Int) = ((used + fo.length : Nat) : Int) from by omega] at h ⊢
            exact h
          have HF7 := Lib.hid hf7
          have HB7 := Lib.hid hb7
          clear b6 hf7 hb7
          go_wp2_with fail
          generalize ((w6.setCell ⟨gl, 3, none⟩ (.int .i64 part)).setCell ⟨gl, 4, none⟩ (.int .i64 ((used : Int) + (fo.length : Int)))).setCell ⟨gl, 5, none⟩ (.bool true) = w7 at *
          obtain ⟨g7, hg7⟩ : ∃ g7 : Lg, g7 = { g with last := part, used := used + fo.length, waits := true } := ⟨_, rfl⟩
          have HL7 : Hid (LgIn w7 w.heap.size gd gl g7) := by
            have h := HL6.out.set HF7.out HB7.out rfl rfl rfl rfl hp9 (by show used + fo.length ≤ 2000000; omega)
            rw [← hg7] at h
            exact h
          have hsame : ∀ k, LBlks gl g7 k ↔ LBlks gl g k := by rw [hg7]; exact fun k => LBlks.same rfl rfl k
          have HA7 : Hid (AtS w w7 gd p6 (Mine gl g7 S')) := HA6.out.prot HF7.out (fun k _ hk => ⟨.inl (.inl hk), by rw [hk]; exact HL6.out.base⟩) fun k hk => .inl (hk.imp (hsame k).1 id)
          have HS7 : Hid (∀ k, S' k → ¬ LBlks gl g7 k) := fun k hk hb => HSG.out k hk ((hsame k).1 hb)
          have HT7 : Hid (∀ k, S' k → k < w7.heap.size) := fun k hk => Nat.lt_of_lt_of_le (HT6.out k hk) HF7.out.size
          have HF67 : Hid (Fr (Loose w S') w4 w7) := HF6.out.trans (HF7.out.mono fun k _ hk => by
            subst hk
            exact ⟨fun h => HSG.out _ h (.inl rfl), HL6.out.base⟩)
          have HRR7 : Hid (Rd w7 A (cb r)) := HRR.out.fr' HF67.out fun hp k hk hc => by
            rcases HSAFE.out (by rw [← cb_length]; exact hp) k hk with h | h
            · have := hc.2; omega
            · exact hc.1 h
          have HCL := Lib.hid fun W (hf : Fr NoBlk w7 W) => clone_any W A r.length c r rfl (HRR7.out.nofr hf) HAC.out (by omega)
          have HPL7 : Hid (g7.pl = { g.pl with last := part, used := used + fo.length, waits := true }) := by show _ = _; rw [hg7]; rfl
          have HFEW : Hid (g7.parts.length + 1 ≤ 20000000) := by
            show _ ≤ _
            rw [hg7]
            have h1 : g.pl.recs.length = g.parts.length := List.length_map _
            have h2 := HREC.out
            show g.parts.length + 1 ≤ _
            omega
          obtain ⟨Av, cv, hv, hcv, hAv⟩ := own_form HL7.out.own
          have HV := Lib.hid hv
          have k67 : w7.cell? ⟨gl, 6, none⟩ = some (.slice Av g7.parts.length cv) := by rw [HL7.out.bk.cell 6]; show some g7.rv = _; rw [hv]
          obtain ⟨np, hnp⟩ : ∃ np, np = g7.parts.length := ⟨_, rfl⟩
          have HNP := Lib.hid hnp
          rw [← hnp] at k67
          have hnpb : np + 1 ≤ 20000000 := by rw [hnp]; exact HFEW.out
          clear hg7 hsame hv hcv hAv hnp d3 d4 d5 z3 z4 z5 HF6 HF7 HB7 HL6 HA6 HT6 c0 k06 HLG HAG HSG HTG HLP HAP HFI
          refine wp_region_held_drew (S := fun _ => True) (by kernel_rfl) trivial (fun hHeld => ?_)
          refine wpAnyH_take (i := 0) (oi := ⟨some 75, _, _, _, _, _⟩) (v := ?_) rfl (by kernel_rfl) (by kernel_rfl) (by kernel_rfl) (fun _ _ _ h => h) (Or.inl ⟨by rfl, ?_⟩) (by assumption) ?_
          rotate_left 1
          · (intro w hSw; (try dsimp only at hSw); go_simp) <;> (with_reducible rfl)
          try simp only [Act.put, List.setIfInBounds_toArray, List.set_cons_zero, List.set_cons_succ]
          refine wpAnyH_take (i := 1) (oi := ⟨some 76, _, _, _, _, _⟩) (v := ?_) rfl (by kernel_rfl) (by kernel_rfl) (by kernel_rfl) (fun _ _ _ h => h) (Or.inl ⟨by rfl, ?_⟩) (by assumption) ?_
          rotate_left 1
          · (intro w hSw; (try dsimp only at hSw); go_simp) <;> (with_reducible rfl)
          try simp only [Act.put, List.setIfInBounds_toArray, List.set_cons_zero, List.set_cons_succ]
          refine wpAnyH_take (i := 2) (oi := ⟨some 77, _, _, _, _, _⟩) (v := ?_) rfl (by kernel_rfl) (by kernel_rfl) (by kernel_rfl) (fun _ _ _ h => h) (Or.inl ⟨by rfl, ?_⟩) (by assumption) ?_
          rotate_left 1
          · (intro w hSw; (try dsimp only at hSw); go_simp) <;> (with_reducible rfl)
          try simp only [Act.put, List.setIfInBounds_toArray, List.set_cons_zero, List.set_cons_succ]
          refine wpAnyH_take (i := 3) (oi := ⟨some 78, _, _, _, _, _⟩) (v := ?_) rfl (by kernel_rfl) (by kernel_rfl) (by kernel_rfl) (fun _ _ _ h => h) (Or.inl ⟨by rfl, ?_⟩) (by assumption) ?_
          rotate_left 1
          · (intro w hSw; (try dsimp only at hSw); go_simp) <;> (with_reducible rfl)
          try simp only [Act.put, List.setIfInBounds_toArray, List.set_cons_zero, List.set_cons_succ]
          refine wpAnyH_take (i := 5) (oi := ⟨some 80, _, _, _, _, _⟩) (v := ?_) rfl (by kernel_rfl) (by kernel_rfl) (by kernel_rfl) (fun _ _ _ h => h) (Or.inl ⟨by rfl, ?_⟩) (by assumption) ?_
          rotate_left 1
          · (intro w hSw; (try dsimp only at hSw); go_simp) <;> (with_reducible rfl)
          try simp only [Act.put, List.setIfInBounds_toArray, List.set_cons_zero, List.set_cons_succ]
          refine wpAnyH_ready (rs := [4, 6]) (by kernel_rfl) (by simp) ?_
          refine AllReadyH.cons (o := ⟨some 79, _, _, _, _, _⟩) rfl (fun K hK => ?_) (AllReadyH.cons (o := ⟨some 81, _, _, _, _, _⟩) rfl (fun K hK => ?_) AllReadyH.nil)
          · go_simp
            refine hK.out _ _ ?_ (fun hHeld => ?_)
            · trivial
            clear hK K
            try simp only [Act.put, List.setIfInBounds_toArray, List.set_cons_zero, List.set_cons_succ]
            refine wpAnyH_ready (rs := [6]) (by kernel_rfl) (by simp) ?_
            refine AllReadyH.cons (o := ⟨some 81, _, _, _, _, _⟩) rfl (fun K hK => ?_) AllReadyH.nil
            go_simp
            go_at_call 24
            refine (HCL.out _ (Fr.refl _ _).drew).mono ?_
            rintro e w8 ⟨v8, rfl, hn8⟩
            obtain ⟨A8, c8, rfl, hc8, hA8⟩ := own_form hn8.own
            have HN8 : Hid (w8.ownsRow w7.heap.size 5 1 (.slice A8 r.length c8) r.length (cb r) ∧ Fr NoBlk w7 w8) := ⟨hn8.own, ((Fr.refl NoBlk w7).drew).trans hn8.fr⟩
            have k68 : w8.cell? ⟨gl, 6, none⟩ = some (.slice Av np cv) := by
              rw [(HL7.out.bk.fr HN8.out.2 fun h => h).cell 6, HNP.out, ← HV.out]
              rfl
            clear hn8 hc8 hA8
            go_wp2_with fail
            refine hK.out _ _ ?_ (fun hHeld => ?_)
            · trivial
            clear hK K
            try simp only [Act.put, List.setIfInBounds_toArray, List.set_cons_zero, List.set_cons_succ]
            refine wpAnyH_ready (rs := [7]) (by kernel_rfl) (by simp) ?_
            refine AllReadyH.cons (o := ⟨some 82, _, _, _, _, _⟩) rfl (fun K hK => ?_) AllReadyH.nil
            go_simp
            have HFA : Hid (Fr NoBlk w8 (w8.alloc (.cells #[.slice A8 r.length c8] 34))) := (Fr.refl _ _).alloc _
            have HOWN : Hid ((w8.alloc (.cells #[.slice A8 r.length c8] 34)).ownsRow w.heap.size 34 1 (.slice Av np cv) np (g7.parts.map sl)) := by
              have h := own_fr (own_fr HL7.out.own HN8.out.2 fun _ _ h => h) HFA.out fun _ _ h => h
              rw [HV.out, ← HNP.out] at h
              exact h
            have HSZ : Hid (w.heap.size ≤ w8.heap.size) := Nat.le_trans (Nat.le_trans HA7.out.fr.size (Nat.le_refl _)) HN8.out.2.size
            skip
            refine hK.out _ _ ?_ (fun hHeld => ?_)
            · trivial
            clear hK K
            try simp only [Act.put, List.setIfInBounds_toArray, List.set_cons_zero, List.set_cons_succ]
            refine wpAnyH_ready (rs := [8]) (by kernel_rfl) (by simp) ?_
            refine AllReadyH.cons (o := ⟨some 83, _, _, _, _, _⟩) rfl (fun K hK => ?_) AllReadyH.nil
            refine step_app rfl _ _ 22 rfl w.heap.size 34 i0 (.slice none 0 0) 24 Tryd.underlying22 hi hz0 hz1 hz2 rfl (.slice Av np cv) np (g7.parts.map sl) rfl HOWN.out (some ⟨w8.heap.size, 0, none⟩) 1 1 [.slice A8 r.length c8] rfl rfl (Rd.new_marked w8 [.slice A8 r.length c8] 34 (0, 0)) (by intro u hu; rw [List.mem_singleton.1 hu]; rfl) (by intro h; cases h) (by unfold maxLen; omega) (by omega) (by have := HSZ.out; simp; omega) ?_
            intro v9 w9 ho9 hgrow _ hblk
            have hBA : Bk (w8.alloc (.cells #[.slice A8 r.length c8] 34)) gl 52 (g7.cells gd) := (HL7.out.bk.fr HN8.out.2 fun h => h).fr HFA.out fun h => h
            have hB9 : Bk w9 gl 52 (g7.cells gd) := hBA.fr (Fr.ofGrown hgrow) (fun e => own_apart HOWN.out hBA (by decide) e.symm)
            obtain ⟨A9, c9, rfl, hc9, hA9⟩ := own_form ho9
            have q6 : w9.cell? ⟨gl, 6, none⟩ = some (.slice Av np cv) := by rw [hB9.cell 6, HNP.out, ← HV.out]; rfl
            have q6f := hB9.free 6
            have HB9 := Lib.hid hB9
            have HO9 := Lib.hid ho9
            have HG9 := Lib.hid hgrow
            have HK9 := Lib.hid hblk
            clear ho9 hgrow hblk hBA hB9 hc9 hA9
            skip
            refine hK.out _ _ ?_ (fun hHeld => ?_)
            · trivial
            clear hK K
            try simp only [Act.put, List.setIfInBounds_toArray, List.set_cons_zero, List.set_cons_succ]
            refine wpAnyH_take (i := 9) (oi := ⟨some 84, _, _, _, _, _⟩) (v := ?_) rfl (by kernel_rfl) (by kernel_rfl) (by kernel_rfl) (fun _ _ _ h => h) (Or.inl ⟨by rfl, ?_⟩) (by assumption) ?_
            rotate_left 1
            · (intro w hSw; (try dsimp only at hSw); go_simp) <;> (with_reducible rfl)
            try simp only [Act.put, List.setIfInBounds_toArray, List.set_cons_zero, List.set_cons_succ]
            refine wpAnyH_take (i := 10) (oi := ⟨some 85, _, _, _, _, _⟩) (v := ?_) rfl (by kernel_rfl) (by kernel_rfl) (by kernel_rfl) (fun _ _ _ h => h) (Or.inl ⟨by rfl, ?_⟩) (by assumption) ?_
            rotate_left 1
            · (intro w hSw; (try dsimp only at hSw); go_simp) <;> (with_reducible rfl)
            try simp only [Act.put, List.setIfInBounds_toArray, List.set_cons_zero, List.set_cons_succ]
            refine wpAnyH_ready (rs := [11]) (by kernel_rfl) (by simp) ?_
            refine AllReadyH.cons (o := ⟨none, _, _, _, _, _⟩) rfl (fun K hK => ?_) AllReadyH.nil
            go_simp
            refine hK.out _ _ ?_ (fun hHeld => ?_)
            · trivial
            clear hK K
            try simp only [Act.put, List.setIfInBounds_toArray, List.set_cons_zero, List.set_cons_succ]
            refine wpAnyH_done (by kernel_rfl) ?_ _
            have hB10 : Bk (w9.setCell ⟨gl, 6, none⟩ (.slice A9 (np + 1) c9)) gl 52 (Lg.cells gd { g7 with rv := .slice A9 (np + 1) c9 }) := HB9.out.put 6 (.slice A9 (np + 1) c9)
            have hf10 : Fr (fun j => j = gl) w9 (w9.setCell ⟨gl, 6, none⟩ (.slice A9 (np + 1) c9)) := (Fr.refl (fun j => j = gl) w9).setCell (p := ⟨gl, 6, none⟩) (fun _ => rfl) _
            have HPU : Hid (WL w (w9.setCell ⟨gl, 6, none⟩ (.slice A9 (np + 1) c9)) gd p6 gl (PL.with { g.pl with last := part, used := used + fo.length, waits := true } [r]) S' ∧ Fr (Loose w S') w7 (w9.setCell ⟨gl, 6, none⟩ (.slice A9 (np + 1) c9))) := by
              refine WL.push (q := (A8, c8, r)) (w1 := w8.alloc (.cells #[.slice A8 r.length c8] 34)) (w2 := w9) HPL7.out HL7.out HA7.out HS7.out HT7.out (by show r.length ≤ 4096; omega) (own_fr HN8.out.1 HFA.out fun _ _ h => h) (HN8.out.2.trans HFA.out) (v' := .slice A9 (np + 1) c9) ?_ ?_ ?_ hf10 hB10 HFEW.out
              · rw [← HNP.out]; exact HO9.out
              · rw [HV.out, ← HNP.out]; exact HG9.out
              · rw [HV.out, ← HNP.out]; exact HK9.out
            have HZ : Hid (∀ W, Fr NoBlk (w9.setCell ⟨gl, 6, none⟩ (.slice A9 (np + 1) c9)) W → LPost w w0 gd gl rr S (.returned (.int .i64 0)) W) := by
              intro W hf
              rw [HLP2.out]
              refine ⟨rfl, (HPU.out.1.less fun k hk => HSUB.out k hk).nofr hf, (HF04.out.trans ((HF67.out.trans HPU.out.2).less fun k hk => HSUB.out k hk)).trans (hf.mono fun _ _ h => h.elim)⟩
            clear hB10 hf10 HPU HO9 HG9 HK9 HB9
            go_wp2_with fail
            go_ret
            exact HZ.out _ (by first | exact Fr.refl _ _ | exact (Fr.refl _ _).drew)
          · go_simp
            go_at_call 24
            refine (HCL.out _ (Fr.refl _ _).drew).mono ?_
            rintro e w8 ⟨v8, rfl, hn8⟩
            obtain ⟨A8, c8, rfl, hc8, hA8⟩ := own_form hn8.own
            have HN8 : Hid (w8.ownsRow w7.heap.size 5 1 (.slice A8 r.length c8) r.length (cb r) ∧ Fr NoBlk w7 w8) := ⟨hn8.own, ((Fr.refl NoBlk w7).drew).trans hn8.fr⟩
            have k68 : w8.cell? ⟨gl, 6, none⟩ = some (.slice Av np cv) := by
              rw [(HL7.out.bk.fr HN8.out.2 fun h => h).cell 6, HNP.out, ← HV.out]
              rfl
            clear hn8 hc8 hA8
            go_wp2_with fail
            refine hK.out _ _ ?_ (fun hHeld => ?_)
            · trivial
            clear hK K
            try simp only [Act.put, List.setIfInBounds_toArray, List.set_cons_zero, List.set_cons_succ]
            refine wpAnyH_ready (rs := [4, 7]) (by kernel_rfl) (by simp) ?_
            refine AllReadyH.cons (o := ⟨some 79, _, _, _, _, _⟩) rfl (fun K hK => ?_) (AllReadyH.cons (o := ⟨some 82, _, _, _, _, _⟩) rfl (fun K hK => ?_) AllReadyH.nil)
            · go_simp
              refine hK.out _ _ ?_ (fun hHeld => ?_)
              · trivial
              clear hK K
              try simp only [Act.put, List.setIfInBounds_toArray, List.set_cons_zero, List.set_cons_succ]
              refine wpAnyH_ready (rs := [7]) (by kernel_rfl) (by simp) ?_
              refine AllReadyH.cons (o := ⟨some 82, _, _, _, _, _⟩) rfl (fun K hK => ?_) AllReadyH.nil
              go_simp
              have HFA : Hid (Fr NoBlk w8 (w8.alloc (.cells #[.slice A8 r.length c8] 34))) := (Fr.refl _ _).alloc _
              have HOWN : Hid ((w8.alloc (.cells #[.slice A8 r.length c8] 34)).ownsRow w.heap.size 34 1 (.slice Av np cv) np (g7.parts.map sl)) := by
                have h := own_fr (own_fr HL7.out.own HN8.out.2 fun _ _ h => h) HFA.out fun _ _ h => h
                rw [HV.out, ← HNP.out] at h
                exact h
              have HSZ : Hid (w.heap.size ≤ w8.heap.size) := Nat.le_trans (Nat.le_trans HA7.out.fr.size (Nat.le_refl _)) HN8.out.2.size
              skip
              refine hK.out _ _ ?_ (fun hHeld => ?_)
              · trivial
              clear hK K
              try simp only [Act.put, List.setIfInBounds_toArray, List.set_cons_zero, List.set_cons_succ]
              refine wpAnyH_ready (rs := [8]) (by kernel_rfl) (by simp) ?_
              refine AllReadyH.cons (o := ⟨some 83, _, _, _, _, _⟩) rfl (fun K hK => ?_) AllReadyH.nil
              refine step_app rfl _ _ 22 rfl w.heap.size 34 i0 (.slice none 0 0) 24 Tryd.underlying22 hi hz0 hz1 hz2 rfl (.slice Av np cv) np (g7.parts.map sl) rfl HOWN.out (some ⟨w8.heap.size, 0, none⟩) 1 1 [.slice A8 r.length c8] rfl rfl (Rd.new_marked w8 [.slice A8 r.length c8] 34 (0, 0)) (by intro u hu; rw [List.mem_singleton.1 hu]; rfl) (by intro h; cases h) (by unfold maxLen; omega) (by omega) (by have := HSZ.out; simp; omega) ?_
              intro v9 w9 ho9 hgrow _ hblk
              have hBA : Bk (w8.alloc (.cells #[.slice A8 r.length c8] 34)) gl 52 (g7.cells gd) := (HL7.out.bk.fr HN8.out.2 fun h => h).fr HFA.out fun h => h
              have hB9 : Bk w9 gl 52 (g7.cells gd) := hBA.fr (Fr.ofGrown hgrow) (fun e => own_apart HOWN.out hBA (by decide) e.symm)
              obtain ⟨A9, c9, rfl, hc9, hA9⟩ := own_form ho9
              have q6 : w9.cell? ⟨gl, 6, none⟩ = some (.slice Av np cv) := by rw [hB9.cell 6, HNP.out, ← HV.out]; rfl
              have q6f := hB9.free 6
              have HB9 := Lib.hid hB9
              have HO9 := Lib.hid ho9
              have HG9 := Lib.hid hgrow
              have HK9 := Lib.hid hblk
              clear ho9 hgrow hblk hBA hB9 hc9 hA9
              skip
              refine hK.out _ _ ?_ (fun hHeld => ?_)
              · trivial
              clear hK K
              try simp only [Act.put, List.setIfInBounds_toArray, List.set_cons_zero, List.set_cons_succ]
              refine wpAnyH_take (i := 9) (oi := ⟨some 84, _, _, _, _, _⟩) (v := ?_) rfl (by kernel_rfl) (by kernel_rfl) (by kernel_rfl) (fun _ _ _ h => h) (Or.inl ⟨by rfl, ?_⟩) (by assumption) ?_
              rotate_left 1
              · (intro w hSw; (try dsimp only at hSw); go_simp) <;> (with_reducible rfl)
              try simp only [Act.put, List.setIfInBounds_toArray, List.set_cons_zero, List.set_cons_succ]
              refine wpAnyH_take (i := 10) (oi := ⟨some 85, _, _, _, _, _⟩) (v := ?_) rfl (by kernel_rfl) (by kernel_rfl) (by kernel_rfl) (fun _ _ _ h => h) (Or.inl ⟨by rfl, ?_⟩) (by assumption) ?_
              rotate_left 1
              · (intro w hSw; (try dsimp only at hSw); go_simp) <;> (with_reducible rfl)
              try simp only [Act.put, List.setIfInBounds_toArray, List.set_cons_zero, List.set_cons_succ]
              refine wpAnyH_ready (rs := [11]) (by kernel_rfl) (by simp) ?_
              refine AllReadyH.cons (o := ⟨none, _, _, _, _, _⟩) rfl (fun K hK => ?_) AllReadyH.nil
              go_simp
              refine hK.out _ _ ?_ (fun hHeld => ?_)
              · trivial
              clear hK K
              try simp only [Act.put, List.setIfInBounds_toArray, List.set_cons_zero, List.set_cons_succ]
              refine wpAnyH_done (by kernel_rfl) ?_ _
              have hB10 : Bk (w9.setCell ⟨gl, 6, none⟩ (.slice A9 (np + 1) c9)) gl 52 (Lg.cells gd { g7 with rv := .slice A9 (np + 1) c9 }) := HB9.out.put 6 (.slice A9 (np + 1) c9)
              have hf10 : Fr (fun j => j = gl) w9 (w9.setCell ⟨gl, 6, none⟩ (.slice A9 (np + 1) c9)) := (Fr.refl (fun j => j = gl) w9).setCell (p := ⟨gl, 6, none⟩) (fun _ => rfl) _
              have HPU : Hid (WL w (w9.setCell ⟨gl, 6, none⟩ (.slice A9 (np + 1) c9)) gd p6 gl (PL.with { g.pl with last := part, used := used + fo.length, waits := true } [r]) S' ∧ Fr (Loose w S') w7 (w9.setCell ⟨gl, 6, none⟩ (.slice A9 (np + 1) c9))) := by
                refine WL.push (q := (A8, c8, r)) (w1 := w8.alloc (.cells #[.slice A8 r.length c8] 34)) (w2 := w9) HPL7.out HL7.out HA7.out HS7.out HT7.out (by show r.length ≤ 4096; omega) (own_fr HN8.out.1 HFA.out fun _ _ h => h) (HN8.out.2.trans HFA.out) (v' := .slice A9 (np + 1) c9) ?_ ?_ ?_ hf10 hB10 HFEW.out
                · rw [← HNP.out]; exact HO9.out
                · rw [HV.out, ← HNP.out]; exact HG9.out
                · rw [HV.out, ← HNP.out]; exact HK9.out
              have HZ : Hid (∀ W, Fr NoBlk (w9.setCell ⟨gl, 6, none⟩ (.slice A9 (np + 1) c9)) W → LPost w w0 gd gl rr S (.returned (.int .i64 0)) W) := by
                intro W hf
                rw [HLP2.out]
                refine ⟨rfl, (HPU.out.1.less fun k hk => HSUB.out k hk).nofr hf, (HF04.out.trans ((HF67.out.trans HPU.out.2).less fun k hk => HSUB.out k hk)).trans (hf.mono fun _ _ h => h.elim)⟩
              clear hB10 hf10 HPU HO9 HG9 HK9 HB9
              go_wp2_with fail
              go_ret
              exact HZ.out _ (by first | exact Fr.refl _ _ | exact (Fr.refl _ _).drew)
            · go_simp
              have HFA : Hid (Fr NoBlk w8 (w8.alloc (.cells #[.slice A8 r.length c8] 34))) := (Fr.refl _ _).alloc _
              have HOWN : Hid ((w8.alloc (.cells #[.slice A8 r.length c8] 34)).ownsRow w.heap.size 34 1 (.slice Av np cv) np (g7.parts.map sl)) := by
                have h := own_fr (own_fr HL7.out.own HN8.out.2 fun _ _ h => h) HFA.out fun _ _ h => h
                rw [HV.out, ← HNP.out] at h
                exact h
              have k69 : (w8.alloc (.cells #[.slice A8 r.length c8] 34)).cell? ⟨gl, 6, none⟩ = some (.slice Av np cv) := by
                rw [((HL7.out.bk.fr HN8.out.2 fun h => h).fr HFA.out fun h => h).cell 6, HNP.out, ← HV.out]
                rfl
              have HSZ : Hid (w.heap.size ≤ w8.heap.size) := Nat.le_trans (Nat.le_trans HA7.out.fr.size (Nat.le_refl _)) HN8.out.2.size
              skip
              refine hK.out _ _ ?_ (fun hHeld => ?_)
              · trivial
              clear hK K
              try simp only [Act.put, List.setIfInBounds_toArray, List.set_cons_zero, List.set_cons_succ]
              refine wpAnyH_ready (rs := [4]) (by kernel_rfl) (by simp) ?_
              refine AllReadyH.cons (o := ⟨some 79, _, _, _, _, _⟩) rfl (fun K hK => ?_) AllReadyH.nil
              go_simp
              refine hK.out _ _ ?_ (fun hHeld => ?_)
              · trivial
              clear hK K
              try simp only [Act.put, List.setIfInBounds_toArray, List.set_cons_zero, List.set_cons_succ]
              refine wpAnyH_ready (rs := [8]) (by kernel_rfl) (by simp) ?_
              refine AllReadyH.cons (o := ⟨some 83, _, _, _, _, _⟩) rfl (fun K hK => ?_) AllReadyH.nil
              refine step_app rfl _ _ 22 rfl w.heap.size 34 i0 (.slice none 0 0) 24 Tryd.underlying22 hi hz0 hz1 hz2 rfl (.slice Av np cv) np (g7.parts.map sl) rfl HOWN.out (some ⟨w8.heap.size, 0, none⟩) 1 1 [.slice A8 r.length c8] rfl rfl (Rd.new_marked w8 [.slice A8 r.length c8] 34 (0, 0)) (by intro u hu; rw [List.mem_singleton.1 hu]; rfl) (by intro h; cases h) (by unfold maxLen; omega) (by omega) (by have := HSZ.out; simp; omega) ?_
              intro v9 w9 ho9 hgrow _ hblk
              have hBA : Bk (w8.alloc (.cells #[.slice A8 r.length c8] 34)) gl 52 (g7.cells gd) := (HL7.out.bk.fr HN8.out.2 fun h => h).fr HFA.out fun h => h
              have hB9 : Bk w9 gl 52 (g7.cells gd) := hBA.fr (Fr.ofGrown hgrow) (fun e => own_apart HOWN.out hBA (by decide) e.symm)
              obtain ⟨A9, c9, rfl, hc9, hA9⟩ := own_form ho9
              have q6 : w9.cell? ⟨gl, 6, none⟩ = some (.slice Av np cv) := by rw [hB9.cell 6, HNP.out, ← HV.out]; rfl
              have q6f := hB9.free 6
              have HB9 := Lib.hid hB9
              have HO9 := Lib.hid ho9
              have HG9 := Lib.hid hgrow
              have HK9 := Lib.hid hblk
              clear ho9 hgrow hblk hBA hB9 hc9 hA9
              skip
              refine hK.out _ _ ?_ (fun hHeld => ?_)
              · trivial
              clear hK K
              try simp only [Act.put, List.setIfInBounds_toArray, List.set_cons_zero, List.set_cons_succ]
              refine wpAnyH_take (i := 9) (oi := ⟨some 84, _, _, _, _, _⟩) (v := ?_) rfl (by kernel_rfl) (by kernel_rfl) (by kernel_rfl) (fun _ _ _ h => h) (Or.inl ⟨by rfl, ?_⟩) (by assumption) ?_
              rotate_left 1
              · (intro w hSw; (try dsimp only at hSw); go_simp) <;> (with_reducible rfl)
              try simp only [Act.put, List.setIfInBounds_toArray, List.set_cons_zero, List.set_cons_succ]
              refine wpAnyH_take (i := 10) (oi := ⟨some 85, _, _, _, _, _⟩) (v := ?_) rfl (by kernel_rfl) (by kernel_rfl) (by kernel_rfl) (fun _ _ _ h => h) (Or.inl ⟨by rfl, ?_⟩) (by assumption) ?_
              rotate_left 1
              · (intro w hSw; (try dsimp only at hSw); go_simp) <;> (with_reducible rfl)
              try simp only [Act.put, List.setIfInBounds_toArray, List.set_cons_zero, List.set_cons_succ]
              refine wpAnyH_ready (rs := [11]) (by kernel_rfl) (by simp) ?_
              refine AllReadyH.cons (o := ⟨none, _, _, _, _, _⟩) rfl (fun K hK => ?_) AllReadyH.nil
              go_simp
              refine hK.out _ _ ?_ (fun hHeld => ?_)
              · trivial
              clear hK K
              try simp only [Act.put, List.setIfInBounds_toArray, List.set_cons_zero, List.set_cons_succ]
              refine wpAnyH_done (by kernel_rfl) ?_ _
              have hB10 : Bk (w9.setCell ⟨gl, 6, none⟩ (.slice A9 (np + 1) c9)) gl 52 (Lg.cells gd { g7 with rv := .slice A9 (np + 1) c9 }) := HB9.out.put 6 (.slice A9 (np + 1) c9)
              have hf10 : Fr (fun j => j = gl) w9 (w9.setCell ⟨gl, 6, none⟩ (.slice A9 (np + 1) c9)) := (Fr.refl (fun j => j = gl) w9).setCell (p := ⟨gl, 6, none⟩) (fun _ => rfl) _
              have HPU : Hid (WL w (w9.setCell ⟨gl, 6, none⟩ (.slice A9 (np + 1) c9)) gd p6 gl (PL.with { g.pl with last := part, used := used + fo.length, waits := true } [r]) S' ∧ Fr (Loose w S') w7 (w9.setCell ⟨gl, 6, none⟩ (.slice A9 (np + 1) c9))) := by
                refine WL.push (q := (A8, c8, r)) (w1 := w8.alloc (.cells #[.slice A8 r.length c8] 34)) (w2 := w9) HPL7.out HL7.out HA7.out HS7.out HT7.out (by show r.length ≤ 4096; omega) (own_fr HN8.out.1 HFA.out fun _ _ h => h) (HN8.out.2.trans HFA.out) (v' := .slice A9 (np + 1) c9) ?_ ?_ ?_ hf10 hB10 HFEW.out
                · rw [← HNP.out]; exact HO9.out
                · rw [HV.out, ← HNP.out]; exact HG9.out
                · rw [HV.out, ← HNP.out]; exact HK9.out
              have HZ : Hid (∀ W, Fr NoBlk (w9.setCell ⟨gl, 6, none⟩ (.slice A9 (np + 1) c9)) W → LPost w w0 gd gl rr S (.returned (.int .i64 0)) W) := by
                intro W hf
                rw [HLP2.out]
                refine ⟨rfl, (HPU.out.1.less fun k hk => HSUB.out k hk).nofr hf, (HF04.out.trans ((HF67.out.trans HPU.out.2).less fun k hk => HSUB.out k hk)).trans (hf.mono fun _ _ h => h.elim)⟩
              clear hB10 hf10 HPU HO9 HG9 HK9 HB9
              go_wp2_with fail
              go_ret
              exact HZ.out _ (by first | exact Fr.refl _ _ | exact (Fr.refl _ _).drew)
        · have HLP2 : Hid (rr = (p6, g.pl, z)) := by show _ = _; rw [HPR.out, HLP.out, if_neg hz]
          have HZ : Hid (LPost w w0 gd gl rr S (.returned (.int .i64 z)) w6) := by
            rw [HLP2.out]
            refine ⟨rfl, ⟨g, rfl, HL6.out, HA6.out.prot (Fr.refl NoBlk _) (fun _ _ h => h.elim) fun k hk => .inl (hk.imp id (HSUB.out k)), fun k hk => HSG.out k (HSUB.out k hk), fun k hk => HT6.out k (HSUB.out k hk)⟩, HF04.out.trans (HF6.out.less fun k hk => HSUB.out k hk)⟩
          have t1 : (z != 0) = true := bne_iff_ne.2 hz
          clear HL6 HA6 HF6 HLP HLP2
          go_wp2_with fail
          go_ret
          exact HZ.out
      · have HZ : Hid (LPost w w0 gd gl rr S (.returned (.int .i64 z4)) w4) := by
          have e : rr = (p4, L4, z4) := by rw [HQ.out, if_neg hz4]
          rw [e]
          exact ⟨rfl, hw4.less fun k hk => HSUB.out k hk, (HFQ.out.mono fun _ _ h => h.elim).trans (hf4.less fun k hk => HSUB.out k hk)⟩
        have t1 : (z4 != 0) = true := bne_iff_ne.2 hz4
        clear hw4 hf4 HQ HLS
        go_wp2_with fail
        go_ret
        exact HZ.out
  · have HPRE0 : Hid (rr = lput p L L.last L.used r) := by
      show _ = _
      rw [HRRQ.out]
      unfold lappend
      rw [← HFO.out, if_neg hbig]
    obtain ⟨w4, hw4⟩ : ∃ w4, w4 = w2 := ⟨_, rfl⟩
    obtain ⟨p4, hp4⟩ : ∃ p4, p4 = p := ⟨_, rfl⟩
    rw [← hw4] at HW2 HRF2 HRR2 HFQ e2 ⊢
    rw [← hp4] at HW2 HPRE0
    clear hw4 hp4
    obtain ⟨g, hg, hlg, hag, hsg, htg⟩ := HW2.out
    obtain ⟨part, hpart⟩ : ∃ part, part = L.last := ⟨_, rfl⟩
    obtain ⟨used, husd⟩ : ∃ used, used = L.used := ⟨_, rfl⟩
    have hub : used ≤ 1048576 := by omega
    have hp9 : part ≤ 9 := by omega
    rw [← hpart, ← husd] at HPRE0 ⊢
    rw [← husd] at hbig
    obtain ⟨sz, hsz⟩ : ∃ sz, sz = L.size := ⟨_, rfl⟩
    rw [← hsz] at hbig e2 hszb
    have HREC : Hid (g.pl.recs.length ≤ 19000000) := by show _ ≤ _; rw [hg]; exact HRECL.out
    rw [← hg] at HPRE0
    have HPRE := HPRE0
    have HLG := Lib.hid hlg
    have HAG := Lib.hid hag
    have HSG := Lib.hid hsg
    have HTG := Lib.hid htg
    have HRF := HRF2
    have HRR := HRR2
    have HF04 : Hid (Fr (Loose w S) w0 w4) := HFQ.out.mono fun _ _ h => h.elim
    clear hg hlg hag hsg htg HPRE0 HW2 hpart husd hsz HRRQ hused hl9
    by_cases hu0 : 0 < used
    · have hub2 : used + fo.length ≤ sz := by omega
      have f1 : ¬ (sz : Int) < (used : Int) + (fo.length : Int) := by omega
      clear hbig
      have c0 : w4.cell? ⟨gl, 0, none⟩ = some (.pointer (some ⟨gd, 0, none⟩)) := HLG.out.bk.cell 0
      have HFI := Lib.hid fun W (hb : Bk W gl 52 (g.cells gd)) => file_any W gd gl g hb HLG.out.nm part hp9
      have hlf : (lfile g.name part).length ≤ maxLen := by rw [lfile_len]; have := HLG.out.nm; unfold maxLen; omega
      have hml := Mine.lt HLG.out HTG.out
      have HAP := Lib.hid fun W (hf : Fr NoBlk w4 W) => appendS (HAG.out.nofr hf) (fun j hj => Nat.lt_of_lt_of_le (hml j hj) hf.size) (lfile g.name part) hlf A1 fo.length c1 fo rfl (HRF.out.nofr hf) HA1.out (by rw [HFL.out]; unfold maxLen; omega)
      have HPR : Hid (rr = lput p4 g.pl part used r) := HPRE.out
      have HLP : Hid (lput p4 g.pl part used r = if (pAppend p4 (lfile g.name part) fo).2 = 0 then ((pAppend p4 (lfile g.name part) fo).1, { g.pl with last := part, used := used + fo.length, waits := true, recs := g.pl.recs ++ [r] }, 0) else ((pAppend p4 (lfile g.name part) fo).1, g.pl, (pAppend p4 (lfile g.name part) fo).2)) := by
        show _ = _
        rw [HFO.out]
        rfl
      clear hlf hml HPRE
      obtain ⟨nk, hnk⟩ : ∃ nk, nk = lfile g.name part := ⟨_, rfl⟩
      rw [← hnk] at HFI HAP HLP
      clear hnk
      go_wp2_with fail
      refine wp_region_held_drew (S := fun w' => w'.cell? ⟨gl, 0, none⟩ = some (.pointer (some ⟨gd, 0, none⟩))) (by kernel_rfl) (by exact c0) (fun hHeld => ?_)
      refine wpAnyH_take (i := 0) (oi := ⟨some 49, _, _, _, _, _⟩) (v := ?_) rfl (by kernel_rfl) (by kernel_rfl) (by kernel_rfl) (fun _ _ _ h => h) (Or.inl ⟨by rfl, ?_⟩) (by assumption) ?_
      rotate_left 1
      · (intro w hSw; (try dsimp only at hSw); go_simp) <;> (with_reducible rfl)
      try simp only [Act.put, List.setIfInBounds_toArray, List.set_cons_zero, List.set_cons_succ]
      refine wpAnyH_take (i := 1) (oi := ⟨some 50, _, _, _, _, _⟩) (v := ?_) rfl (by kernel_rfl) (by kernel_rfl) (by kernel_rfl) (fun _ _ _ h => h) (Or.inl ⟨by rfl, ?_⟩) (by assumption) ?_
      rotate_left 1
      · (intro w hSw; (try dsimp only at hSw); go_simp) <;> (with_reducible rfl)
      try simp only [Act.put, List.setIfInBounds_toArray, List.set_cons_zero, List.set_cons_succ]
      refine wpAnyH_take (i := 2) (oi := ⟨some 51, _, _, _, _, _⟩) (v := ?_) rfl (by kernel_rfl) (by kernel_rfl) (by kernel_rfl) (fun _ _ _ h => h) (Or.inl ⟨by rfl, ?_⟩) (by assumption) ?_
      rotate_left 1
      · (intro w hSw; (try dsimp only at hSw); go_simp) <;> (with_reducible rfl)
      try simp only [Act.put, List.setIfInBounds_toArray, List.set_cons_zero, List.set_cons_succ]
      refine wpAnyH_take (i := 3) (oi := ⟨some 52, _, _, _, _, _⟩) (v := ?_) rfl (by kernel_rfl) (by kernel_rfl) (by kernel_rfl) (fun _ _ _ h => h) (Or.inl ⟨by rfl, ?_⟩) (by assumption) ?_
      rotate_left 1
      · (intro w hSw; (try dsimp only at hSw); go_simp) <;> (with_reducible rfl)
      try simp only [Act.put, List.setIfInBounds_toArray, List.set_cons_zero, List.set_cons_succ]
      refine wpAnyH_take (i := 4) (oi := ⟨some 53, _, _, _, _, _⟩) (v := ?_) rfl (by kernel_rfl) (by kernel_rfl) (by kernel_rfl) (fun _ _ _ h => h) (Or.inl ⟨by rfl, ?_⟩) (by assumption) ?_
      rotate_left 1
      · (intro w hSw; (try dsimp only at hSw); go_simp) <;> (with_reducible rfl)
      try simp only [Act.put, List.setIfInBounds_toArray, List.set_cons_zero, List.set_cons_succ]
      refine wpAnyH_take (i := 5) (oi := ⟨some 54, _, _, _, _, _⟩) (v := ?_) rfl (by kernel_rfl) (by kernel_rfl) (by kernel_rfl) (fun _ _ _ h => h) (Or.inl ⟨by rfl, ?_⟩) (by assumption) ?_
      rotate_left 1
      · (intro w hSw; (try dsimp only at hSw); go_simp) <;> (with_reducible rfl)
      try simp only [Act.put, List.setIfInBounds_toArray, List.set_cons_zero, List.set_cons_succ]
      refine wpAnyH_take (i := 7) (oi := ⟨some 56, _, _, _, _, _⟩) (v := ?_) rfl (by kernel_rfl) (by kernel_rfl) (by kernel_rfl) (fun _ _ _ h => h) (Or.inl ⟨by rfl, ?_⟩) (by assumption) ?_
      rotate_left 1
      · (intro w hSw; (try dsimp only at hSw); go_simp) <;> (with_reducible rfl)
      try simp only [Act.put, List.setIfInBounds_toArray, List.set_cons_zero, List.set_cons_succ]
      refine wpAnyH_ready (rs := [6]) (by kernel_rfl) (by simp) ?_
      refine AllReadyH.cons (o := ⟨some 55, _, _, _, _, _⟩) rfl (fun K hK => ?_) AllReadyH.nil
      go_simp
      go_at_call 23
      refine (HFI.out _ HLG.out.bk.drew).mono ?_
      rintro e w5 ⟨rfl, rfl⟩
      go_wp2_with fail
      refine hK.out _ _ ?_ (fun hHeld => ?_)
      · first | exact c0 | exact k06
      clear hK K
      try simp only [Act.put, List.setIfInBounds_toArray, List.set_cons_zero, List.set_cons_succ]
      refine wpAnyH_ready (rs := [8]) (by kernel_rfl) (by simp) ?_
      refine AllReadyH.cons (o := ⟨some 57, _, _, _, _, _⟩) rfl (fun K hK => ?_) AllReadyH.nil
      go_simp
      go_at_call 15
      refine (HAP.out _ (Fr.refl _ _).drew).mono ?_
      rintro e w6 ⟨rfl, ha6, hf6⟩
      have HA6 := Lib.hid ha6
      have HL6 : Hid (LgIn w6 w.heap.size gd gl g) := (HLG.out.fr ((Fr.refl NoBlk w4).drew) fun _ _ h => h).fr hf6 fun k hk hc => hc.1 (.inl hk)
      have HF6 : Hid (Fr (Loose w S') w4 w6) := ((Fr.refl _ w4).drew).trans (hf6.mono fun k _ hk => ⟨fun h => hk.1 (.inr h), hk.2⟩)
      have HT6 : Hid (∀ k, S' k → k < w6.heap.size) := fun k hk => Nat.lt_of_lt_of_le (HTG.out k hk) HF6.out.size
      have k06 : w6.cell? ⟨gl, 0, none⟩ = some (.pointer (some ⟨gd, 0, none⟩)) := HL6.out.bk.cell 0
      clear ha6 hf6 hHeld
      generalize (pAppend p4 nk fo).1 = p6 at *
      generalize (pAppend p4 nk fo).2 = z at *
      go_wp2_with fail
      refine hK.out _ _ ?_ (fun hHeld => ?_)
      · first | exact c0 | exact k06
      clear hK K
      try simp only [Act.put, List.setIfInBounds_toArray, List.set_cons_zero, List.set_cons_succ]
      refine wpAnyH_take (i := 9) (oi := ⟨some 10, _, _, _, _, _⟩) (v := ?_) rfl (by kernel_rfl) (by kernel_rfl) (by kernel_rfl) (fun _ _ _ h => h) (Or.inl ⟨by rfl, ?_⟩) (by assumption) ?_
      rotate_left 1
      · (intro w hSw; (try dsimp only at hSw); go_simp) <;> (with_reducible rfl)
      try simp only [Act.put, List.setIfInBounds_toArray, List.set_cons_zero, List.set_cons_succ]
      refine wpAnyH_done (by kernel_rfl) ?_ _
      have hfl4 : fo.length ≤ 4102 := by rw [HFL.out]; omega
      by_cases hz : z = 0
      · have HLP2 : Hid (rr = (p6, { g.pl with last := part, used := used + fo.length, waits := true, recs := g.pl.recs ++ [r] }, 0)) := by show _ = _; rw [HPR.out, HLP.out, if_pos hz]
        subst hz
        have b6 := HL6.out.bk
        have d3 : w6.cell? ⟨gl, 3, none⟩ = some (.int .i64 g.last) := b6.cell 3
        have d4 : w6.cell? ⟨gl, 4, none⟩ = some (.int .i64 g.used) := b6.cell 4
        have d5 : w6.cell? ⟨gl, 5, none⟩ = some (.bool g.waits) := b6.cell 5
        have z3 := b6.free 3
        have z4 := b6.free 4
        have z5 := b6.free 5
        have hf7 : Fr (fun j => j = gl) w6 (((w6.setCell ⟨gl, 3, none⟩ (.int .i64 part)).setCell ⟨gl, 4, none⟩ (.int .i64 ((used : Int) + (fo.length : Int)))).setCell ⟨gl, 5, none⟩ (.bool true)) := (((Fr.refl (fun j => j = gl) w6).setCell (p := ⟨gl, 3, none⟩) (fun _ => rfl) _).setCell (p := ⟨gl, 4, none⟩) (fun _ => rfl) _).setCell (p := ⟨gl, 5, none⟩) (fun _ => rfl) _
        have hb7 : Bk (((w6.setCell ⟨gl, 3, none⟩ (.int .i64 part)).setCell ⟨gl, 4, none⟩ (.int .i64 ((used : Int) + (fo.length : Int)))).setCell ⟨gl, 5, none⟩ (.bool true)) gl 52 (Lg.cells gd { g with last := part, used := used + fo.length, waits := true }) := by
          have h := ((b6.put 3 (.int .i64 part)).put 4 (.int .i64 ((used : Int) + (fo.length : Int)))).put 5 (.bool true)
          rw [show (used : Int) + (fo.length : Int) = ((used + fo.length : Nat) : Int) from by omega] at h ⊢
          exact h
        have HF7 := Lib.hid hf7
        have HB7 := Lib.hid hb7
        clear b6 hf7 hb7
        go_wp2_with fail
        generalize ((w6.setCell ⟨gl, 3, none⟩ (.int .i64 part)).setCell ⟨gl, 4, none⟩ (.int .i64 ((used : Int) + (fo.length : Int)))).setCell ⟨gl, 5, none⟩ (.bool true) = w7 at *
        obtain ⟨g7, hg7⟩ : ∃ g7 : Lg, g7 = { g with last := part, used := used + fo.length, waits := true } := ⟨_, rfl⟩
        have HL7 : Hid (LgIn w7 w.heap.size gd gl g7) := by
          have h := HL6.out.set HF7.out HB7.out rfl rfl rfl rfl hp9 (by show used + fo.length ≤ 2000000; omega)
          rw [← hg7] at h
          exact h
        have hsame : ∀ k, LBlks gl g7 k ↔ LBlks gl g k := by rw [hg7]; exact fun k => LBlks.same rfl rfl k
        have HA7 : Hid (AtS w w7 gd p6 (Mine gl g7 S')) := HA6.out.prot HF7.out (fun k _ hk => ⟨.inl (.inl hk), by rw [hk]; exact HL6.out.base⟩) fun k hk => .inl (hk.imp (hsame k).1 id)
        have HS7 : Hid (∀ k, S' k → ¬ LBlks gl g7 k) := fun k hk hb => HSG.out k hk ((hsame k).1 hb)
        have HT7 : Hid (∀ k, S' k → k < w7.heap.size) := fun k hk => Nat.lt_of_lt_of_le (HT6.out k hk) HF7.out.size
        have HF67 : Hid (Fr (Loose w S') w4 w7) := HF6.out.trans (HF7.out.mono fun k _ hk => by
          subst hk
          exact ⟨fun h => HSG.out _ h (.inl rfl), HL6.out.base⟩)
        have HRR7 : Hid (Rd w7 A (cb r)) := HRR.out.fr' HF67.out fun hp k hk hc => by
          rcases HSAFE.out (by rw [← cb_length]; exact hp) k hk with h | h
          · have := hc.2; omega
          · exact hc.1 h
        have HCL := Lib.hid fun W (hf : Fr NoBlk w7 W) => clone_any W A r.length c r rfl (HRR7.out.nofr hf) HAC.out (by omega)
        have HPL7 : Hid (g7.pl = { g.pl with last := part, used := used + fo.length, waits := true }) := by show _ = _; rw [hg7]; rfl
        have HFEW : Hid (g7.parts.length + 1 ≤ 20000000) := by
          show _ ≤ _
          rw [hg7]
          have h1 : g.pl.recs.length = g.parts.length := List.length_map _
          have h2 := HREC.out
          show g.parts.length + 1 ≤ _
          omega
        obtain ⟨Av, cv, hv, hcv, hAv⟩ := own_form HL7.out.own
        have HV := Lib.hid hv
        have k67 : w7.cell? ⟨gl, 6, none⟩ = some (.slice Av g7.parts.length cv) := by rw [HL7.out.bk.cell 6]; show some g7.rv = _; rw [hv]
        obtain ⟨np, hnp⟩ : ∃ np, np = g7.parts.length := ⟨_, rfl⟩
        have HNP := Lib.hid hnp
        rw [← hnp] at k67
        have hnpb : np + 1 ≤ 20000000 := by rw [hnp]; exact HFEW.out
        clear hg7 hsame hv hcv hAv hnp d3 d4 d5 z3 z4 z5 HF6 HF7 HB7 HL6 HA6 HT6 c0 k06 HLG HAG HSG HTG HLP HAP HFI
        refine wp_region_held_drew (S := fun _ => True) (by kernel_rfl) trivial (fun hHeld => ?_)
        refine wpAnyH_take (i := 0) (oi := ⟨some 75, _, _, _, _, _⟩) (v := ?_) rfl (by kernel_rfl) (by kernel_rfl) (by kernel_rfl) (fun _ _ _ h => h) (Or.inl ⟨by rfl, ?_⟩) (by assumption) ?_
        rotate_left 1
        · (intro w hSw; (try dsimp only at hSw); go_simp) <;> (with_reducible rfl)
        try simp only [Act.put, List.setIfInBounds_toArray, List.set_cons_zero, List.set_cons_succ]
        refine wpAnyH_take (i := 1) (oi := ⟨some 76, _, _, _, _, _⟩) (v := ?_) rfl (by kernel_rfl) (by kernel_rfl) (by kernel_rfl) (fun _ _ _ h => h) (Or.inl ⟨by rfl, ?_⟩) (by assumption) ?_
        rotate_left 1
        · (intro w hSw; (try dsimp only at hSw); go_simp) <;> (with_reducible rfl)
        try simp only [Act.put, List.setIfInBounds_toArray, List.set_cons_zero, List.set_cons_succ]
        refine wpAnyH_take (i := 2) (oi := ⟨some 77, _, _, _, _, _⟩) (v := ?_) rfl (by kernel_rfl) (by kernel_rfl) (by kernel_rfl) (fun _ _ _ h => h) (Or.inl ⟨by rfl, ?_⟩) (by assumption) ?_
        rotate_left 1
        · (intro w hSw; (try dsimp only at hSw); go_simp) <;> (with_reducible rfl)
        try simp only [Act.put, List.setIfInBounds_toArray, List.set_cons_zero, List.set_cons_succ]
        refine wpAnyH_take (i := 3) (oi := ⟨some 78, _, _, _, _, _⟩) (v := ?_) rfl (by kernel_rfl) (by kernel_rfl) (by kernel_rfl) (fun _ _ _ h => h) (Or.inl ⟨by rfl, ?_⟩) (by assumption) ?_
        rotate_left 1
        · (intro w hSw; (try dsimp only at hSw); go_simp) <;> (with_reducible rfl)
        try simp only [Act.put, List.setIfInBounds_toArray, List.set_cons_zero, List.set_cons_succ]
        refine wpAnyH_take (i := 5) (oi := ⟨some 80, _, _, _, _, _⟩) (v := ?_) rfl (by kernel_rfl) (by kernel_rfl) (by kernel_rfl) (fun _ _ _ h => h) (Or.inl ⟨by rfl, ?_⟩) (by assumption) ?_
        rotate_left 1
        · (intro w hSw; (try dsimp only at hSw); go_simp) <;> (with_reducible rfl)
        try simp only [Act.put, List.setIfInBounds_toArray, List.set_cons_zero, List.set_cons_succ]
        refine wpAnyH_ready (rs := [4, 6]) (by kernel_rfl) (by simp) ?_
        refine AllReadyH.cons (o := ⟨some 79, _, _, _, _, _⟩) rfl (fun K hK => ?_) (AllReadyH.cons (o := ⟨some 81, _, _, _, _, _⟩) rfl (fun K hK => ?_) AllReadyH.nil)
        · go_simp
          refine hK.out _ _ ?_ (fun hHeld => ?_)
          · trivial
          clear hK K
          try simp only [Act.put, List.setIfInBounds_toArray, List.set_cons_zero, List.set_cons_succ]
          refine wpAnyH_ready (rs := [6]) (by kernel_rfl) (by simp) ?_
          refine AllReadyH.cons (o := ⟨some 81, _, _, _, _, _⟩) rfl (fun K hK => ?_) AllReadyH.nil
          go_simp
          go_at_call 24
          refine (HCL.out _ (Fr.refl _ _).drew).mono ?_
          rintro e w8 ⟨v8, rfl, hn8⟩
          obtain ⟨A8, c8, rfl, hc8, hA8⟩ := own_form hn8.own
          have HN8 : Hid (w8.ownsRow w7.heap.size 5 1 (.slice A8 r.length c8) r.length (cb r) ∧ Fr NoBlk w7 w8) := ⟨hn8.own, ((Fr.refl NoBlk w7).drew).trans hn8.fr⟩
          have k68 : w8.cell? ⟨gl, 6, none⟩ = some (.slice Av np cv) := by
            rw [(HL7.out.bk.fr HN8.out.2 fun h => h).cell 6, HNP.out, ← HV.out]
            rfl
          clear hn8 hc8 hA8
          go_wp2_with fail
          refine hK.out _ _ ?_ (fun hHeld => ?_)
          · trivial
          clear hK K
          try simp only [Act.put, List.setIfInBounds_toArray, List.set_cons_zero, List.set_cons_succ]
          refine wpAnyH_ready (rs := [7]) (by kernel_rfl) (by simp) ?_
          refine AllReadyH.cons (o := ⟨some 82, _, _, _, _, _⟩) rfl (fun K hK => ?_) AllReadyH.nil
          go_simp
          have HFA : Hid (Fr NoBlk w8 (w8.alloc (.cells #[.slice A8 r.length c8] 34))) := (Fr.refl _ _).alloc _
          have HOWN : Hid ((w8.alloc (.cells #[.slice A8 r.length c8] 34)).ownsRow w.heap.size 34 1 (.slice Av np cv) np (g7.parts.map sl)) := by
            have h := own_fr (own_fr HL7.out.own HN8.out.2 fun _ _ h => h) HFA.out fun _ _ h => h
            rw [HV.out, ← HNP.out] at h
            exact h
          have HSZ : Hid (w.heap.size ≤ w8.heap.size) := Nat.le_trans (Nat.le_trans HA7.out.fr.size (Nat.le_refl _)) HN8.out.2.size
          skip
          refine hK.out _ _ ?_ (fun hHeld => ?_)
          · trivial
          clear hK K
          try simp only [Act.put, List.setIfInBounds_toArray, List.set_cons_zero, List.set_cons_succ]
          refine wpAnyH_ready (rs := [8]) (by kernel_rfl) (by simp) ?_
          refine AllReadyH.cons (o := ⟨some 83, _, _, _, _, _⟩) rfl (fun K hK => ?_) AllReadyH.nil
          refine step_app rfl _ _ 22 rfl w.heap.size 34 i0 (.slice none 0 0) 24 Tryd.underlying22 hi hz0 hz1 hz2 rfl (.slice Av np cv) np (g7.parts.map sl) rfl HOWN.out (some ⟨w8.heap.size, 0, none⟩) 1 1 [.slice A8 r.length c8] rfl rfl (Rd.new_marked w8 [.slice A8 r.length c8] 34 (0, 0)) (by intro u hu; rw [List.mem_singleton.1 hu]; rfl) (by intro h; cases h) (by unfold maxLen; omega) (by omega) (by have := HSZ.out; simp; omega) ?_
          intro v9 w9 ho9 hgrow _ hblk
          have hBA : Bk (w8.alloc (.cells #[.slice A8 r.length c8] 34)) gl 52 (g7.cells gd) := (HL7.out.bk.fr HN8.out.2 fun h => h).fr HFA.out fun h => h
          have hB9 : Bk w9 gl 52 (g7.cells gd) := hBA.fr (Fr.ofGrown hgrow) (fun e => own_apart HOWN.out hBA (by decide) e.symm)
          obtain ⟨A9, c9, rfl, hc9, hA9⟩ := own_form ho9
          have q6 : w9.cell? ⟨gl, 6, none⟩ = some (.slice Av np cv) := by rw [hB9.cell 6, HNP.out, ← HV.out]; rfl
          have q6f := hB9.free 6
          have HB9 := Lib.hid hB9
          have HO9 := Lib.hid ho9
          have HG9 := Lib.hid hgrow
          have HK9 := Lib.hid hblk
          clear ho9 hgrow hblk hBA hB9 hc9 hA9
          skip
          refine hK.out _ _ ?_ (fun hHeld => ?_)
          · trivial
          clear hK K
          try simp only [Act.put, List.setIfInBounds_toArray, List.set_cons_zero, List.set_cons_succ]
          refine wpAnyH_take (i := 9) (oi := ⟨some 84, _, _, _, _, _⟩) (v := ?_) rfl (by kernel_rfl) (by kernel_rfl) (by kernel_rfl) (fun _ _ _ h => h) (Or.inl ⟨by rfl, ?_⟩) (by assumption) ?_
          rotate_left 1
          · (intro w hSw; (try dsimp only at hSw); go_simp) <;> (with_reducible rfl)
          try simp only [Act.put, List.setIfInBounds_toArray, List.set_cons_zero, List.set_cons_succ]
          refine wpAnyH_take (i := 10) (oi := ⟨some 85, _, _, _, _, _⟩) (v := ?_) rfl (by kernel_rfl) (by kernel_rfl) (by kernel_rfl) (fun _ _ _ h => h) (Or.inl ⟨by rfl, ?_⟩) (by assumption) ?_
          rotate_left 1
          · (intro w hSw; (try dsimp only at hSw); go_simp) <;> (with_reducible rfl)
          try simp only [Act.put, List.setIfInBounds_toArray, List.set_cons_zero, List.set_cons_succ]
          refine wpAnyH_ready (rs := [11]) (by kernel_rfl) (by simp) ?_
          refine AllReadyH.cons (o := ⟨none, _, _, _, _, _⟩) rfl (fun K hK => ?_) AllReadyH.nil
          go_simp
          refine hK.out _ _ ?_ (fun hHeld => ?_)
          · trivial
          clear hK K
          try simp only [Act.put, List.setIfInBounds_toArray, List.set_cons_zero, List.set_cons_succ]
          refine wpAnyH_done (by kernel_rfl) ?_ _
          have hB10 : Bk (w9.setCell ⟨gl, 6, none⟩ (.slice A9 (np + 1) c9)) gl 52 (Lg.cells gd { g7 with rv := .slice A9 (np + 1) c9 }) := HB9.out.put 6 (.slice A9 (np + 1) c9)
          have hf10 : Fr (fun j => j = gl) w9 (w9.setCell ⟨gl, 6, none⟩ (.slice A9 (np + 1) c9)) := (Fr.refl (fun j => j = gl) w9).setCell (p := ⟨gl, 6, none⟩) (fun _ => rfl) _
          have HPU : Hid (WL w (w9.setCell ⟨gl, 6, none⟩ (.slice A9 (np + 1) c9)) gd p6 gl (PL.with { g.pl with last := part, used := used + fo.length, waits := true } [r]) S' ∧ Fr (Loose w S') w7 (w9.setCell ⟨gl, 6, none⟩ (.slice A9 (np + 1) c9))) := by
            refine WL.push (q := (A8, c8, r)) (w1 := w8.alloc (.cells #[.slice A8 r.length c8] 34)) (w2 := w9) HPL7.out HL7.out HA7.out HS7.out HT7.out (by show r.length ≤ 4096; omega) (own_fr HN8.out.1 HFA.out fun _ _ h => h) (HN8.out.2.trans HFA.out) (v' := .slice A9 (np + 1) c9) ?_ ?_ ?_ hf10 hB10 HFEW.out
            · rw [← HNP.out]; exact HO9.out
            · rw [HV.out, ← HNP.out]; exact HG9.out
            · rw [HV.out, ← HNP.out]; exact HK9.out
          have HZ : Hid (∀ W, Fr NoBlk (w9.setCell ⟨gl, 6, none⟩ (.slice A9 (np + 1) c9)) W → LPost w w0 gd gl rr S (.returned (.int .i64 0)) W) := by
            intro W hf
            rw [HLP2.out]
            refine ⟨rfl, (HPU.out.1.less fun k hk => HSUB.out k hk).nofr hf, (HF04.out.trans ((HF67.out.trans HPU.out.2).less fun k hk => HSUB.out k hk)).trans (hf.mono fun _ _ h => h.elim)⟩
          clear hB10 hf10 HPU HO9 HG9 HK9 HB9
          go_wp2_with fail
          go_ret
          exact HZ.out _ (by first | exact Fr.refl _ _ | exact (Fr.refl _ _).drew)
        · go_simp
          go_at_call 24
          refine (HCL.out _ (Fr.refl _ _).drew).mono ?_
          rintro e w8 ⟨v8, rfl, hn8⟩
          obtain ⟨A8, c8, rfl, hc8, hA8⟩ := own_form hn8.own
          have HN8 : Hid (w8.ownsRow w7.heap.size 5 1 (.slice A8 r.length c8) r.length (cb r) ∧ Fr NoBlk w7 w8) := ⟨hn8.own, ((Fr.refl NoBlk w7).drew).trans hn8.fr⟩
          have k68 : w8.cell? ⟨gl, 6, none⟩ = some (.slice Av np cv) := by
            rw [(HL7.out.bk.fr HN8.out.2 fun h => h).cell 6, HNP.out, ← HV.out]
            rfl
          clear hn8 hc8 hA8
          go_wp2_with fail
          refine hK.out _ _ ?_ (fun hHeld => ?_)
          · trivial
          clear hK K
          try simp only [Act.put, List.setIfInBounds_toArray, List.set_cons_zero, List.set_cons_succ]
          refine wpAnyH_ready (rs := [4, 7]) (by kernel_rfl) (by simp) ?_
          refine AllReadyH.cons (o := ⟨some 79, _, _, _, _, _⟩) rfl (fun K hK => ?_) (AllReadyH.cons (o := ⟨some 82, _, _, _, _, _⟩) rfl (fun K hK => ?_) AllReadyH.nil)
          · go_simp
            refine hK.out _ _ ?_ (fun hHeld => ?_)
            · trivial
            clear hK K
            try simp only [Act.put, List.setIfInBounds_toArray, List.set_cons_zero, List.set_cons_succ]
            refine wpAnyH_ready (rs := [7]) (by kernel_rfl) (by simp) ?_
            refine AllReadyH.cons (o := ⟨some 82, _, _, _, _, _⟩) rfl (fun K hK => ?_) AllReadyH.nil
            go_simp
            have HFA : Hid (Fr NoBlk w8 (w8.alloc (.cells #[.slice A8 r.length c8] 34))) := (Fr.refl _ _).alloc _
            have HOWN : Hid ((w8.alloc (.cells #[.slice A8 r.length c8] 34)).ownsRow w.heap.size 34 1 (.slice Av np cv) np (g7.parts.map sl)) := by
              have h := own_fr (own_fr HL7.out.own HN8.out.2 fun _ _ h => h) HFA.out fun _ _ h => h
              rw [HV.out, ← HNP.out] at h
              exact h
            have HSZ : Hid (w.heap.size ≤ w8.heap.size) := Nat.le_trans (Nat.le_trans HA7.out.fr.size (Nat.le_refl _)) HN8.out.2.size
            skip
            refine hK.out _ _ ?_ (fun hHeld => ?_)
            · trivial
            clear hK K
            try simp only [Act.put, List.setIfInBounds_toArray, List.set_cons_zero, List.set_cons_succ]
            refine wpAnyH_ready (rs := [8]) (by kernel_rfl) (by simp) ?_
            refine AllReadyH.cons (o := ⟨some 83, _, _, _, _, _⟩) rfl (fun K hK => ?_) AllReadyH.nil
            refine step_app rfl _ _ 22 rfl w.heap.size 34 i0 (.slice none 0 0) 24 Tryd.underlying22 hi hz0 hz1 hz2 rfl (.slice Av np cv) np (g7.parts.map sl) rfl HOWN.out (some ⟨w8.heap.size, 0, none⟩) 1 1 [.slice A8 r.length c8] rfl rfl (Rd.new_marked w8 [.slice A8 r.length c8] 34 (0, 0)) (by intro u hu; rw [List.mem_singleton.1 hu]; rfl) (by intro h; cases h) (by unfold maxLen; omega) (by omega) (by have := HSZ.out; simp; omega) ?_
            intro v9 w9 ho9 hgrow _ hblk
            have hBA : Bk (w8.alloc (.cells #[.slice A8 r.length c8] 34)) gl 52 (g7.cells gd) := (HL7.out.bk.fr HN8.out.2 fun h => h).fr HFA.out fun h => h
            have hB9 : Bk w9 gl 52 (g7.cells gd) := hBA.fr (Fr.ofGrown hgrow) (fun e => own_apart HOWN.out hBA (by decide) e.symm)
            obtain ⟨A9, c9, rfl, hc9, hA9⟩ := own_form ho9
            have q6 : w9.cell? ⟨gl, 6, none⟩ = some (.slice Av np cv) := by rw [hB9.cell 6, HNP.out, ← HV.out]; rfl
            have q6f := hB9.free 6
            have HB9 := Lib.hid hB9
            have HO9 := Lib.hid ho9
            have HG9 := Lib.hid hgrow
            have HK9 := Lib.hid hblk
            clear ho9 hgrow hblk hBA hB9 hc9 hA9
            skip
            refine hK.out _ _ ?_ (fun hHeld => ?_)
            · trivial
            clear hK K
            try simp only [Act.put, List.setIfInBounds_toArray, List.set_cons_zero, List.set_cons_succ]
            refine wpAnyH_take (i := 9) (oi := ⟨some 84, _, _, _, _, _⟩) (v := ?_) rfl (by kernel_rfl) (by kernel_rfl) (by kernel_rfl) (fun _ _ _ h => h) (Or.inl ⟨by rfl, ?_⟩) (by assumption) ?_
            rotate_left 1
            · (intro w hSw; (try dsimp only at hSw); go_simp) <;> (with_reducible rfl)
            try simp only [Act.put, List.setIfInBounds_toArray, List.set_cons_zero, List.set_cons_succ]
            refine wpAnyH_take (i := 10) (oi := ⟨some 85, _, _, _, _, _⟩) (v := ?_) rfl (by kernel_rfl) (by kernel_rfl) (by kernel_rfl) (fun _ _ _ h => h) (Or.inl ⟨by rfl, ?_⟩) (by assumption) ?_
            rotate_left 1
            · (intro w hSw; (try dsimp only at hSw); go_simp) <;> (with_reducible rfl)
            try simp only [Act.put, List.setIfInBounds_toArray, List.set_cons_zero, List.set_cons_succ]
            refine wpAnyH_ready (rs := [11]) (by kernel_rfl) (by simp) ?_
            refine AllReadyH.cons (o := ⟨none, _, _, _, _, _⟩) rfl (fun K hK => ?_) AllReadyH.nil
            go_simp
            refine hK.out _ _ ?_ (fun hHeld => ?_)
            · trivial
            clear hK K
            try simp only [Act.put, List.setIfInBounds_toArray, List.set_cons_zero, List.set_cons_succ]
            refine wpAnyH_done (by kernel_rfl) ?_ _
            have hB10 : Bk (w9.setCell ⟨gl, 6, none⟩ (.slice A9 (np + 1) c9)) gl 52 (Lg.cells gd { g7 with rv := .slice A9 (np + 1) c9 }) := HB9.out.put 6 (.slice A9 (np + 1) c9)
            have hf10 : Fr (fun j => j = gl) w9 (w9.setCell ⟨gl, 6, none⟩ (.slice A9 (np + 1) c9)) := (Fr.refl (fun j => j = gl) w9).setCell (p := ⟨gl, 6, none⟩) (fun _ => rfl) _
            have HPU : Hid (WL w (w9.setCell ⟨gl, 6, none⟩ (.slice A9 (np + 1) c9)) gd p6 gl (PL.with { g.pl with last := part, used := used + fo.length, waits := true } [r]) S' ∧ Fr (Loose w S') w7 (w9.setCell ⟨gl, 6, none⟩ (.slice A9 (np + 1) c9))) := by
              refine WL.push (q := (A8, c8, r)) (w1 := w8.alloc (.cells #[.slice A8 r.length c8] 34)) (w2 := w9) HPL7.out HL7.out HA7.out HS7.out HT7.out (by show r.length ≤ 4096; omega) (own_fr HN8.out.1 HFA.out fun _ _ h => h) (HN8.out.2.trans HFA.out) (v' := .slice A9 (np + 1) c9) ?_ ?_ ?_ hf10 hB10 HFEW.out
              · rw [← HNP.out]; exact HO9.out
              · rw [HV.out, ← HNP.out]; exact HG9.out
              · rw [HV.out, ← HNP.out]; exact HK9.out
            have HZ : Hid (∀ W, Fr NoBlk (w9.setCell ⟨gl, 6, none⟩ (.slice A9 (np + 1) c9)) W → LPost w w0 gd gl rr S (.returned (.int .i64 0)) W) := by
              intro W hf
              rw [HLP2.out]
              refine ⟨rfl, (HPU.out.1.less fun k hk => HSUB.out k hk).nofr hf, (HF04.out.trans ((HF67.out.trans HPU.out.2).less fun k hk => HSUB.out k hk)).trans (hf.mono fun _ _ h => h.elim)⟩
            clear hB10 hf10 HPU HO9 HG9 HK9 HB9
            go_wp2_with fail
            go_ret
            exact HZ.out _ (by first | exact Fr.refl _ _ | exact (Fr.refl _ _).drew)
          · go_simp
            have HFA : Hid (Fr NoBlk w8 (w8.alloc (.cells #[.slice A8 r.length c8] 34))) := (Fr.refl _ _).alloc _
            have HOWN : Hid ((w8.alloc (.cells #[.slice A8 r.length c8] 34)).ownsRow w.heap.size 34 1 (.slice Av np cv) np (g7.parts.map sl)) := by
              have h := own_fr (own_fr HL7.out.own HN8.out.2 fun _ _ h => h) HFA.out fun _ _ h => h
              rw [HV.out, ← HNP.out] at h
              exact h
            have k69 : (w8.alloc (.cells #[.slice A8 r.length c8] 34)).cell? ⟨gl, 6, none⟩ = some (.slice Av np cv) := by
              rw [((HL7.out.bk.fr HN8.out.2 fun h => h).fr HFA.out fun h => h).cell 6, HNP.out, ← HV.out]
              rfl
            have HSZ : Hid (w.heap.size ≤ w8.heap.size) := Nat.le_trans (Nat.le_trans HA7.out.fr.size (Nat.le_refl _)) HN8.out.2.size
            skip
            refine hK.out _ _ ?_ (fun hHeld => ?_)
            · trivial
            clear hK K
            try simp only [Act.put, List.setIfInBounds_toArray, List.set_cons_zero, List.set_cons_succ]
            refine wpAnyH_ready (rs := [4]) (by kernel_rfl) (by simp) ?_
            refine AllReadyH.cons (o := ⟨some 79, _, _, _, _, _⟩) rfl (fun K hK => ?_) AllReadyH.nil
            go_simp
            refine hK.out _ _ ?_ (fun hHeld => ?_)
            · trivial
            clear hK K
            try simp only [Act.put, List.setIfInBounds_toArray, List.set_cons_zero, List.set_cons_succ]
            refine wpAnyH_ready (rs := [8]) (by kernel_rfl) (by simp) ?_
            refine AllReadyH.cons (o := ⟨some 83, _, _, _, _, _⟩) rfl (fun K hK => ?_) AllReadyH.nil
            refine step_app rfl _ _ 22 rfl w.heap.size 34 i0 (.slice none 0 0) 24 Tryd.underlying22 hi hz0 hz1 hz2 rfl (.slice Av np cv) np (g7.parts.map sl) rfl HOWN.out (some ⟨w8.heap.size, 0, none⟩) 1 1 [.slice A8 r.length c8] rfl rfl (Rd.new_marked w8 [.slice A8 r.length c8] 34 (0, 0)) (by intro u hu; rw [List.mem_singleton.1 hu]; rfl) (by intro h; cases h) (by unfold maxLen; omega) (by omega) (by have := HSZ.out; simp; omega) ?_
            intro v9 w9 ho9 hgrow _ hblk
            have hBA : Bk (w8.alloc (.cells #[.slice A8 r.length c8] 34)) gl 52 (g7.cells gd) := (HL7.out.bk.fr HN8.out.2 fun h => h).fr HFA.out fun h => h
            have hB9 : Bk w9 gl 52 (g7.cells gd) := hBA.fr (Fr.ofGrown hgrow) (fun e => own_apart HOWN.out hBA (by decide) e.symm)
            obtain ⟨A9, c9, rfl, hc9, hA9⟩ := own_form ho9
            have q6 : w9.cell? ⟨gl, 6, none⟩ = some (.slice Av np cv) := by rw [hB9.cell 6, HNP.out, ← HV.out]; rfl
            have q6f := hB9.free 6
            have HB9 := Lib.hid hB9
            have HO9 := Lib.hid ho9
            have HG9 := Lib.hid hgrow
            have HK9 := Lib.hid hblk
            clear ho9 hgrow hblk hBA hB9 hc9 hA9
            skip
            refine hK.out _ _ ?_ (fun hHeld => ?_)
            · trivial
            clear hK K
            try simp only [Act.put, List.setIfInBounds_toArray, List.set_cons_zero, List.set_cons_succ]
            refine wpAnyH_take (i := 9) (oi := ⟨some 84, _, _, _, _, _⟩) (v := ?_) rfl (by kernel_rfl) (by kernel_rfl) (by kernel_rfl) (fun _ _ _ h => h) (Or.inl ⟨by rfl, ?_⟩) (by assumption) ?_
            rotate_left 1
            · (intro w hSw; (try dsimp only at hSw); go_simp) <;> (with_reducible rfl)
            try simp only [Act.put, List.setIfInBounds_toArray, List.set_cons_zero, List.set_cons_succ]
            refine wpAnyH_take (i := 10) (oi := ⟨some 85, _, _, _, _, _⟩) (v := ?_) rfl (by kernel_rfl) (by kernel_rfl) (by kernel_rfl) (fun _ _ _ h => h) (Or.inl ⟨by rfl, ?_⟩) (by assumption) ?_
            rotate_left 1
            · (intro w hSw; (try dsimp only at hSw); go_simp) <;> (with_reducible rfl)
            try simp only [Act.put, List.setIfInBounds_toArray, List.set_cons_zero, List.set_cons_succ]
            refine wpAnyH_ready (rs := [11]) (by kernel_rfl) (by simp) ?_
            refine AllReadyH.cons (o := ⟨none, _, _, _, _, _⟩) rfl (fun K hK => ?_) AllReadyH.nil
            go_simp
            refine hK.out _ _ ?_ (fun hHeld => ?_)
            · trivial
            clear hK K
            try simp only [Act.put, List.setIfInBounds_toArray, List.set_cons_zero, List.set_cons_succ]
            refine wpAnyH_done (by kernel_rfl) ?_ _
            have hB10 : Bk (w9.setCell ⟨gl, 6, none⟩ (.slice A9 (np + 1) c9)) gl 52 (Lg.cells gd { g7 with rv := .slice A9 (np + 1) c9 }) := HB9.out.put 6 (.slice A9 (np + 1) c9)
            have hf10 : Fr (fun j => j = gl) w9 (w9.setCell ⟨gl, 6, none⟩ (.slice A9 (np + 1) c9)) := (Fr.refl (fun j => j = gl) w9).setCell (p := ⟨gl, 6, none⟩) (fun _ => rfl) _
            have HPU : Hid (WL w (w9.setCell ⟨gl, 6, none⟩ (.slice A9 (np + 1) c9)) gd p6 gl (PL.with { g.pl with last := part, used := used + fo.length, waits := true } [r]) S' ∧ Fr (Loose w S') w7 (w9.setCell ⟨gl, 6, none⟩ (.slice A9 (np + 1) c9))) := by
              refine WL.push (q := (A8, c8, r)) (w1 := w8.alloc (.cells #[.slice A8 r.length c8] 34)) (w2 := w9) HPL7.out HL7.out HA7.out HS7.out HT7.out (by show r.length ≤ 4096; omega) (own_fr HN8.out.1 HFA.out fun _ _ h => h) (HN8.out.2.trans HFA.out) (v' := .slice A9 (np + 1) c9) ?_ ?_ ?_ hf10 hB10 HFEW.out
              · rw [← HNP.out]; exact HO9.out
              · rw [HV.out, ← HNP.out]; exact HG9.out
              · rw [HV.out, ← HNP.out]; exact HK9.out
            have HZ : Hid (∀ W, Fr NoBlk (w9.setCell ⟨gl, 6, none⟩ (.slice A9 (np + 1) c9)) W → LPost w w0 gd gl rr S (.returned (.int .i64 0)) W) := by
              intro W hf
              rw [HLP2.out]
              refine ⟨rfl, (HPU.out.1.less fun k hk => HSUB.out k hk).nofr hf, (HF04.out.trans ((HF67.out.trans HPU.out.2).less fun k hk => HSUB.out k hk)).trans (hf.mono fun _ _ h => h.elim)⟩
            clear hB10 hf10 HPU HO9 HG9 HK9 HB9
            go_wp2_with fail
            go_ret
            exact HZ.out _ (by first | exact Fr.refl _ _ | exact (Fr.refl _ _).drew)
      · have HLP2 : Hid (rr = (p6, g.pl, z)) := by show _ = _; rw [HPR.out, HLP.out, if_neg hz]
        have HZ : Hid (LPost w w0 gd gl rr S (.returned (.int .i64 z)) w6) := by
          rw [HLP2.out]
          refine ⟨rfl, ⟨g, rfl, HL6.out, HA6.out.prot (Fr.refl NoBlk _) (fun _ _ h => h.elim) fun k hk => .inl (hk.imp id (HSUB.out k)), fun k hk => HSG.out k (HSUB.out k hk), fun k hk => HT6.out k (HSUB.out k hk)⟩, HF04.out.trans (HF6.out.less fun k hk => HSUB.out k hk)⟩
        have t1 : (z != 0) = true := bne_iff_ne.2 hz
        clear HL6 HA6 HF6 HLP HLP2
        go_wp2_with fail
        go_ret
        exact HZ.out
    · have hue : ¬ (0 : Int) < (used : Int) := by omega
      clear hbig hu0
      have c0 : w4.cell? ⟨gl, 0, none⟩ = some (.pointer (some ⟨gd, 0, none⟩)) := HLG.out.bk.cell 0
      have HFI := Lib.hid fun W (hb : Bk W gl 52 (g.cells gd)) => file_any W gd gl g hb HLG.out.nm part hp9
      have hlf : (lfile g.name part).length ≤ maxLen := by rw [lfile_len]; have := HLG.out.nm; unfold maxLen; omega
      have hml := Mine.lt HLG.out HTG.out
      have HAP := Lib.hid fun W (hf : Fr NoBlk w4 W) => appendS (HAG.out.nofr hf) (fun j hj => Nat.lt_of_lt_of_le (hml j hj) hf.size) (lfile g.name part) hlf A1 fo.length c1 fo rfl (HRF.out.nofr hf) HA1.out (by rw [HFL.out]; unfold maxLen; omega)
      have HPR : Hid (rr = lput p4 g.pl part used r) := HPRE.out
      have HLP : Hid (lput p4 g.pl part used r = if (pAppend p4 (lfile g.name part) fo).2 = 0 then ((pAppend p4 (lfile g.name part) fo).1, { g.pl with last := part, used := used + fo.length, waits := true, recs := g.pl.recs ++ [r] }, 0) else ((pAppend p4 (lfile g.name part) fo).1, g.pl, (pAppend p4 (lfile g.name part) fo).2)) := by
        show _ = _
        rw [HFO.out]
        rfl
      clear hlf hml HPRE
      obtain ⟨nk, hnk⟩ : ∃ nk, nk = lfile g.name part := ⟨_, rfl⟩
      rw [← hnk] at HFI HAP HLP
      clear hnk
      go_wp2_with fail
      refine wp_region_held_drew (S := fun w' => w'.cell? ⟨gl, 0, none⟩ = some (.pointer (some ⟨gd, 0, none⟩))) (by kernel_rfl) (by exact c0) (fun hHeld => ?_)
      refine wpAnyH_take (i := 0) (oi := ⟨some 49, _, _, _, _, _⟩) (v := ?_) rfl (by kernel_rfl) (by kernel_rfl) (by kernel_rfl) (fun _ _ _ h => h) (Or.inl ⟨by rfl, ?_⟩) (by assumption) ?_
      rotate_left 1
      · (intro w hSw; (try dsimp only at hSw); go_simp) <;> (with_reducible rfl)
      try simp only [Act.put, List.setIfInBounds_toArray, List.set_cons_zero, List.set_cons_succ]
      refine wpAnyH_take (i := 1) (oi := ⟨some 50, _, _, _, _, _⟩) (v := ?_) rfl (by kernel_rfl) (by kernel_rfl) (by kernel_rfl) (fun _ _ _ h => h) (Or.inl ⟨by rfl, ?_⟩) (by assumption) ?_
      rotate_left 1
      · (intro w hSw; (try dsimp only at hSw); go_simp) <;> (with_reducible rfl)
      try simp only [Act.put, List.setIfInBounds_toArray, List.set_cons_zero, List.set_cons_succ]
      refine wpAnyH_take (i := 2) (oi := ⟨some 51, _, _, _, _, _⟩) (v := ?_) rfl (by kernel_rfl) (by kernel_rfl) (by kernel_rfl) (fun _ _ _ h => h) (Or.inl ⟨by rfl, ?_⟩) (by assumption) ?_
      rotate_left 1
      · (intro w hSw; (try dsimp only at hSw); go_simp) <;> (with_reducible rfl)
      try simp only [Act.put, List.setIfInBounds_toArray, List.set_cons_zero, List.set_cons_succ]
      refine wpAnyH_take (i := 3) (oi := ⟨some 52, _, _, _, _, _⟩) (v := ?_) rfl (by kernel_rfl) (by kernel_rfl) (by kernel_rfl) (fun _ _ _ h => h) (Or.inl ⟨by rfl, ?_⟩) (by assumption) ?_
      rotate_left 1
      · (intro w hSw; (try dsimp only at hSw); go_simp) <;> (with_reducible rfl)
      try simp only [Act.put, List.setIfInBounds_toArray, List.set_cons_zero, List.set_cons_succ]
      refine wpAnyH_take (i := 4) (oi := ⟨some 53, _, _, _, _, _⟩) (v := ?_) rfl (by kernel_rfl) (by kernel_rfl) (by kernel_rfl) (fun _ _ _ h => h) (Or.inl ⟨by rfl, ?_⟩) (by assumption) ?_
      rotate_left 1
      · (intro w hSw; (try dsimp only at hSw); go_simp) <;> (with_reducible rfl)
      try simp only [Act.put, List.setIfInBounds_toArray, List.set_cons_zero, List.set_cons_succ]
      refine wpAnyH_take (i := 5) (oi := ⟨some 54, _, _, _, _, _⟩) (v := ?_) rfl (by kernel_rfl) (by kernel_rfl) (by kernel_rfl) (fun _ _ _ h => h) (Or.inl ⟨by rfl, ?_⟩) (by assumption) ?_
      rotate_left 1
      · (intro w hSw; (try dsimp only at hSw); go_simp) <;> (with_reducible rfl)
      try simp only [Act.put, List.setIfInBounds_toArray, List.set_cons_zero, List.set_cons_succ]
      refine wpAnyH_take (i := 7) (oi := ⟨some 56, _, _, _, _, _⟩) (v := ?_) rfl (by kernel_rfl) (by kernel_rfl) (by kernel_rfl) (fun _ _ _ h => h) (Or.inl ⟨by rfl, ?_⟩) (by assumption) ?_
      rotate_left 1
      · (intro w hSw; (try dsimp only at hSw); go_simp) <;> (with_reducible rfl)
      try simp only [Act.put, List.setIfInBounds_toArray, List.set_cons_zero, List.set_cons_succ]
      refine wpAnyH_ready (rs := [6]) (by kernel_rfl) (by simp) ?_
      refine AllReadyH.cons (o := ⟨some 55, _, _, _, _, _⟩) rfl (fun K hK => ?_) AllReadyH.nil
      go_simp
      go_at_call 23
      refine (HFI.out _ HLG.out.bk.drew).mono ?_
      rintro e w5 ⟨rfl, rfl⟩
      go_wp2_with fail
      refine hK.out _ _ ?_ (fun hHeld => ?_)
      · first | exact c0 | exact k06
      clear hK K
      try simp only [Act.put, List.setIfInBounds_toArray, List.set_cons_zero, List.set_cons_succ]
      refine wpAnyH_ready (rs := [8]) (by kernel_rfl) (by simp) ?_
      refine AllReadyH.cons (o := ⟨some 57, _, _, _, _, _⟩) rfl (fun K hK => ?_) AllReadyH.nil
      go_simp
      go_at_call 15
      refine (HAP.out _ (Fr.refl _ _).drew).mono ?_
      rintro e w6 ⟨rfl, ha6, hf6⟩
      have HA6 := Lib.hid ha6
      have HL6 : Hid (LgIn w6 w.heap.size gd gl g) := (HLG.out.fr ((Fr.refl NoBlk w4).drew) fun _ _ h => h).fr hf6 fun k hk hc => hc.1 (.inl hk)
      have HF6 : Hid (Fr (Loose w S') w4 w6) := ((Fr.refl _ w4).drew).trans (hf6.mono fun k _ hk => ⟨fun h => hk.1 (.inr h), hk.2⟩)
      have HT6 : Hid (∀ k, S' k → k < w6.heap.size) := fun k hk => Nat.lt_of_lt_of_le (HTG.out k hk) HF6.out.size
      have k06 : w6.cell? ⟨gl, 0, none⟩ = some (.pointer (some ⟨gd, 0, none⟩)) := HL6.out.bk.cell 0
      clear ha6 hf6 hHeld
      generalize (pAppend p4 nk fo).1 = p6 at *
      generalize (pAppend p4 nk fo).2 = z at *
      go_wp2_with fail
      refine hK.out _ _ ?_ (fun hHeld => ?_)
      · first | exact c0 | exact k06
      clear hK K
      try simp only [Act.put, List.setIfInBounds_toArray, List.set_cons_zero, List.set_cons_succ]
      refine wpAnyH_take (i := 9) (oi := ⟨some 10, _, _, _, _, _⟩) (v := ?_) rfl (by kernel_rfl) (by kernel_rfl) (by kernel_rfl) (fun _ _ _ h => h) (Or.inl ⟨by rfl, ?_⟩) (by assumption) ?_
      rotate_left 1
      · (intro w hSw; (try dsimp only at hSw); go_simp) <;> (with_reducible rfl)
      try simp only [Act.put, List.setIfInBounds_toArray, List.set_cons_zero, List.set_cons_succ]
      refine wpAnyH_done (by kernel_rfl) ?_ _
      have hfl4 : fo.length ≤ 4102 := by rw [HFL.out]; omega
      by_cases hz : z = 0
      · have HLP2 : Hid (rr = (p6, { g.pl with last := part, used := used + fo.length, waits := true, recs := g.pl.recs ++ [r] }, 0)) := by show _ = _; rw [HPR.out, HLP.out, if_pos hz]
        subst hz
        have b6 := HL6.out.bk
        have d3 : w6.cell? ⟨gl, 3, none⟩ = some (.int .i64 g.last) := b6.cell 3
        have d4 : w6.cell? ⟨gl, 4, none⟩ = some (.int .i64 g.used) := b6.cell 4
        have d5 : w6.cell? ⟨gl, 5, none⟩ = some (.bool g.waits) := b6.cell 5
        have z3 := b6.free 3
        have z4 := b6.free 4
        have z5 := b6.free 5
        have hf7 : Fr (fun j => j = gl) w6 (((w6.setCell ⟨gl, 3, none⟩ (.int .i64 part)).setCell ⟨gl, 4, none⟩ (.int .i64 ((used : Int) + (fo.length : Int)))).setCell ⟨gl, 5, none⟩ (.bool true)) := (((Fr.refl (fun j => j = gl) w6).setCell (p := ⟨gl, 3, none⟩) (fun _ => rfl) _).setCell (p := ⟨gl, 4, none⟩) (fun _ => rfl) _).setCell (p := ⟨gl, 5, none⟩) (fun _ => rfl) _
        have hb7 : Bk (((w6.setCell ⟨gl, 3, none⟩ (.int .i64 part)).setCell ⟨gl, 4, none⟩ (.int .i64 ((used : Int) + (fo.length : Int)))).setCell ⟨gl, 5, none⟩ (.bool true)) gl 52 (Lg.cells gd { g with last := part, used := used + fo.length, waits := true }) := by
          have h := ((b6.put 3 (.int .i64 part)).put 4 (.int .i64 ((used : Int) + (fo.length : Int)))).put 5 (.bool true)
          rw [show (used : Int) + (fo.length : Int) = ((used + fo.length : Nat) : Int) from by omega] at h ⊢
          exact h
        have HF7 := Lib.hid hf7
        have HB7 := Lib.hid hb7
        clear b6 hf7 hb7
        go_wp2_with fail
        generalize ((w6.setCell ⟨gl, 3, none⟩ (.int .i64 part)).setCell ⟨gl, 4, none⟩ (.int .i64 ((used : Int) + (fo.length : Int)))).setCell ⟨gl, 5, none⟩ (.bool true) = w7 at *
        obtain ⟨g7, hg7⟩ : ∃ g7 : Lg, g7 = { g with last := part, used := used + fo.length, waits := true } := ⟨_, rfl⟩
        have HL7 : Hid (LgIn w7 w.heap.size gd gl g7) := by
          have h := HL6.out.set HF7.out HB7.out rfl rfl rfl rfl hp9 (by show used + fo.length ≤ 2000000; omega)
          rw [← hg7] at h
          exact h
        have hsame : ∀ k, LBlks gl g7 k ↔ LBlks gl g k := by rw [hg7]; exact fun k => LBlks.same rfl rfl k
        have HA7 : Hid (AtS w w7 gd p6 (Mine gl g7 S')) := HA6.out.prot HF7.out (fun k _ hk => ⟨.inl (.inl hk), by rw [hk]; exact HL6.out.base⟩) fun k hk => .inl (hk.imp (hsame k).1 id)
        have HS7 : Hid (∀ k, S' k → ¬ LBlks gl g7 k) := fun k hk hb => HSG.out k hk ((hsame k).1 hb)
        have HT7 : Hid (∀ k, S' k → k < w7.heap.size) := fun k hk => Nat.lt_of_lt_of_le (HT6.out k hk) HF7.out.size
        have HF67 : Hid (Fr (Loose w S') w4 w7) := HF6.out.trans (HF7.out.mono fun k _ hk => by
          subst hk
          exact ⟨fun h => HSG.out _ h (.inl rfl), HL6.out.base⟩)
        have HRR7 : Hid (Rd w7 A (cb r)) := HRR.out.fr' HF67.out fun hp k hk hc => by
          rcases HSAFE.out (by rw [← cb_length]; exact hp) k hk with h | h
          · have := hc.2; omega
          · exact hc.1 h
        have HCL := Lib.hid fun W (hf : Fr NoBlk w7 W) => clone_any W A r.length c r rfl (HRR7.out.nofr hf) HAC.out (by omega)
        have HPL7 : Hid (g7.pl = { g.pl with last := part, used := used + fo.length, waits := true }) := by show _ = _; rw [hg7]; rfl
        have HFEW : Hid (g7.parts.length + 1 ≤ 20000000) := by
          show _ ≤ _
          rw [hg7]
          have h1 : g.pl.recs.length = g.parts.length := List.length_map _
          have h2 := HREC.out
          show g.parts.length + 1 ≤ _
          omega
        obtain ⟨Av, cv, hv, hcv, hAv⟩ := own_form HL7.out.own
        have HV := Lib.hid hv
        have k67 : w7.cell? ⟨gl, 6, none⟩ = some (.slice Av g7.parts.length cv) := by rw [HL7.out.bk.cell 6]; show some g7.rv = _; rw [hv]
        obtain ⟨np, hnp⟩ : ∃ np, np = g7.parts.length := ⟨_, rfl⟩
        have HNP := Lib.hid hnp
        rw [← hnp] at k67
        have hnpb : np + 1 ≤ 20000000 := by rw [hnp]; exact HFEW.out
        clear hg7 hsame hv hcv hAv hnp d3 d4 d5 z3 z4 z5 HF6 HF7 HB7 HL6 HA6 HT6 c0 k06 HLG HAG HSG HTG HLP HAP HFI
        refine wp_region_held_drew (S := fun _ => True) (by kernel_rfl) trivial (fun hHeld => ?_)
        refine wpAnyH_take (i := 0) (oi := ⟨some 75, _, _, _, _, _⟩) (v := ?_) rfl (by kernel_rfl) (by kernel_rfl) (by kernel_rfl) (fun _ _ _ h => h) (Or.inl ⟨by rfl, ?_⟩) (by assumption) ?_
        rotate_left 1
        · (intro w hSw; (try dsimp only at hSw); go_simp) <;> (with_reducible rfl)
        try simp only [Act.put, List.setIfInBounds_toArray, List.set_cons_zero, List.set_cons_succ]
        refine wpAnyH_take (i := 1) (oi := ⟨some 76, _, _, _, _, _⟩) (v := ?_) rfl (by kernel_rfl) (by kernel_rfl) (by kernel_rfl) (fun _ _ _ h => h) (Or.inl ⟨by rfl, ?_⟩) (by assumption) ?_
        rotate_left 1
        · (intro w hSw; (try dsimp only at hSw); go_simp) <;> (with_reducible rfl)
        try simp only [Act.put, List.setIfInBounds_toArray, List.set_cons_zero, List.set_cons_succ]
        refine wpAnyH_take (i := 2) (oi := ⟨some 77, _, _, _, _, _⟩) (v := ?_) rfl (by kernel_rfl) (by kernel_rfl) (by kernel_rfl) (fun _ _ _ h => h) (Or.inl ⟨by rfl, ?_⟩) (by assumption) ?_
        rotate_left 1
        · (intro w hSw; (try dsimp only at hSw); go_simp) <;> (with_reducible rfl)
        try simp only [Act.put, List.setIfInBounds_toArray, List.set_cons_zero, List.set_cons_succ]
        refine wpAnyH_take (i := 3) (oi := ⟨some 78, _, _, _, _, _⟩) (v := ?_) rfl (by kernel_rfl) (by kernel_rfl) (by kernel_rfl) (fun _ _ _ h => h) (Or.inl ⟨by rfl, ?_⟩) (by assumption) ?_
        rotate_left 1
        · (intro w hSw; (try dsimp only at hSw); go_simp) <;> (with_reducible rfl)
        try simp only [Act.put, List.setIfInBounds_toArray, List.set_cons_zero, List.set_cons_succ]
        refine wpAnyH_take (i := 5) (oi := ⟨some 80, _, _, _, _, _⟩) (v := ?_) rfl (by kernel_rfl) (by kernel_rfl) (by kernel_rfl) (fun _ _ _ h => h) (Or.inl ⟨by rfl, ?_⟩) (by assumption) ?_
        rotate_left 1
        · (intro w hSw; (try dsimp only at hSw); go_simp) <;> (with_reducible rfl)
        try simp only [Act.put, List.setIfInBounds_toArray, List.set_cons_zero, List.set_cons_succ]
        refine wpAnyH_ready (rs := [4, 6]) (by kernel_rfl) (by simp) ?_
        refine AllReadyH.cons (o := ⟨some 79, _, _, _, _, _⟩) rfl (fun K hK => ?_) (AllReadyH.cons (o := ⟨some 81, _, _, _, _, _⟩) rfl (fun K hK => ?_) AllReadyH.nil)
        · go_simp
          refine hK.out _ _ ?_ (fun hHeld => ?_)
          · trivial
          clear hK K
          try simp only [Act.put, List.setIfInBounds_toArray, List.set_cons_zero, List.set_cons_succ]
          refine wpAnyH_ready (rs := [6]) (by kernel_rfl) (by simp) ?_
          refine AllReadyH.cons (o := ⟨some 81, _, _, _, _, _⟩) rfl (fun K hK => ?_) AllReadyH.nil
          go_simp
          go_at_call 24
          refine (HCL.out _ (Fr.refl _ _).drew).mono ?_
          rintro e w8 ⟨v8, rfl, hn8⟩
          obtain ⟨A8, c8, rfl, hc8, hA8⟩ := own_form hn8.own
          have HN8 : Hid (w8.ownsRow w7.heap.size 5 1 (.slice A8 r.length c8) r.length (cb r) ∧ Fr NoBlk w7 w8) := ⟨hn8.own, ((Fr.refl NoBlk w7).drew).trans hn8.fr⟩
          have k68 : w8.cell? ⟨gl, 6, none⟩ = some (.slice Av np cv) := by
            rw [(HL7.out.bk.fr HN8.out.2 fun h => h).cell 6, HNP.out, ← HV.out]
            rfl
          clear hn8 hc8 hA8
          go_wp2_with fail
          refine hK.out _ _ ?_ (fun hHeld => ?_)
          · trivial
          clear hK K
          try simp only [Act.put, List.setIfInBounds_toArray, List.set_cons_zero, List.set_cons_succ]
          refine wpAnyH_ready (rs := [7]) (by kernel_rfl) (by simp) ?_
          refine AllReadyH.cons (o := ⟨some 82, _, _, _, _, _⟩) rfl (fun K hK => ?_) AllReadyH.nil
          go_simp
          have HFA : Hid (Fr NoBlk w8 (w8.alloc (.cells #[.slice A8 r.length c8] 34))) := (Fr.refl _ _).alloc _
          have HOWN : Hid ((w8.alloc (.cells #[.slice A8 r.length c8] 34)).ownsRow w.heap.size 34 1 (.slice Av np cv) np (g7.parts.map sl)) := by
            have h := own_fr (own_fr HL7.out.own HN8.out.2 fun _ _ h => h) HFA.out fun _ _ h => h
            rw [HV.out, ← HNP.out] at h
            exact h
          have HSZ : Hid (w.heap.size ≤ w8.heap.size) := Nat.le_trans (Nat.le_trans HA7.out.fr.size (Nat.le_refl _)) HN8.out.2.size
          skip
          refine hK.out _ _ ?_ (fun hHeld => ?_)
          · trivial
          clear hK K
          try simp only [Act.put, List.setIfInBounds_toArray, List.set_cons_zero, List.set_cons_succ]
          refine wpAnyH_ready (rs := [8]) (by kernel_rfl) (by simp) ?_
          refine AllReadyH.cons (o := ⟨some 83, _, _, _, _, _⟩) rfl (fun K hK => ?_) AllReadyH.nil
          refine step_app rfl _ _ 22 rfl w.heap.size 34 i0 (.slice none 0 0) 24 Tryd.underlying22 hi hz0 hz1 hz2 rfl (.slice Av np cv) np (g7.parts.map sl) rfl HOWN.out (some ⟨w8.heap.size, 0, none⟩) 1 1 [.slice A8 r.length c8] rfl rfl (Rd.new_marked w8 [.slice A8 r.length c8] 34 (0, 0)) (by intro u hu; rw [List.mem_singleton.1 hu]; rfl) (by intro h; cases h) (by unfold maxLen; omega) (by omega) (by have := HSZ.out; simp; omega) ?_
          intro v9 w9 ho9 hgrow _ hblk
          have hBA : Bk (w8.alloc (.cells #[.slice A8 r.length c8] 34)) gl 52 (g7.cells gd) := (HL7.out.bk.fr HN8.out.2 fun h => h).fr HFA.out fun h => h
          have hB9 : Bk w9 gl 52 (g7.cells gd) := hBA.fr (Fr.ofGrown hgrow) (fun e => own_apart HOWN.out hBA (by decide) e.symm)
          obtain ⟨A9, c9, rfl, hc9, hA9⟩ := own_form ho9
          have q6 : w9.cell? ⟨gl, 6, none⟩ = some (.slice Av np cv) := by rw [hB9.cell 6, HNP.out, ← HV.out]; rfl
          have q6f := hB9.free 6
          have HB9 := Lib.hid hB9
          have HO9 := Lib.hid ho9
          have HG9 := Lib.hid hgrow
          have HK9 := Lib.hid hblk
          clear ho9 hgrow hblk hBA hB9 hc9 hA9
          skip
          refine hK.out _ _ ?_ (fun hHeld => ?_)
          · trivial
          clear hK K
          try simp only [Act.put, List.setIfInBounds_toArray, List.set_cons_zero, List.set_cons_succ]
          refine wpAnyH_take (i := 9) (oi := ⟨some 84, _, _, _, _, _⟩) (v := ?_) rfl (by kernel_rfl) (by kernel_rfl) (by kernel_rfl) (fun _ _ _ h => h) (Or.inl ⟨by rfl, ?_⟩) (by assumption) ?_
          rotate_left 1
          · (intro w hSw; (try dsimp only at hSw); go_simp) <;> (with_reducible rfl)
          try simp only [Act.put, List.setIfInBounds_toArray, List.set_cons_zero, List.set_cons_succ]
          refine wpAnyH_take (i := 10) (oi := ⟨some 85, _, _, _, _, _⟩) (v := ?_) rfl (by kernel_rfl) (by kernel_rfl) (by kernel_rfl) (fun _ _ _ h => h) (Or.inl ⟨by rfl, ?_⟩) (by assumption) ?_
          rotate_left 1
          · (intro w hSw; (try dsimp only at hSw); go_simp) <;> (with_reducible rfl)
          try simp only [Act.put, List.setIfInBounds_toArray, List.set_cons_zero, List.set_cons_succ]
          refine wpAnyH_ready (rs := [11]) (by kernel_rfl) (by simp) ?_
          refine AllReadyH.cons (o := ⟨none, _, _, _, _, _⟩) rfl (fun K hK => ?_) AllReadyH.nil
          go_simp
          refine hK.out _ _ ?_ (fun hHeld => ?_)
          · trivial
          clear hK K
          try simp only [Act.put, List.setIfInBounds_toArray, List.set_cons_zero, List.set_cons_succ]
          refine wpAnyH_done (by kernel_rfl) ?_ _
          have hB10 : Bk (w9.setCell ⟨gl, 6, none⟩ (.slice A9 (np + 1) c9)) gl 52 (Lg.cells gd { g7 with rv := .slice A9 (np + 1) c9 }) := HB9.out.put 6 (.slice A9 (np + 1) c9)
          have hf10 : Fr (fun j => j = gl) w9 (w9.setCell ⟨gl, 6, none⟩ (.slice A9 (np + 1) c9)) := (Fr.refl (fun j => j = gl) w9).setCell (p := ⟨gl, 6, none⟩) (fun _ => rfl) _
          have HPU : Hid (WL w (w9.setCell ⟨gl, 6, none⟩ (.slice A9 (np + 1) c9)) gd p6 gl (PL.with { g.pl with last := part, used := used + fo.length, waits := true } [r]) S' ∧ Fr (Loose w S') w7 (w9.setCell ⟨gl, 6, none⟩ (.slice A9 (np + 1) c9))) := by
            refine WL.push (q := (A8, c8, r)) (w1 := w8.alloc (.cells #[.slice A8 r.length c8] 34)) (w2 := w9) HPL7.out HL7.out HA7.out HS7.out HT7.out (by show r.length ≤ 4096; omega) (own_fr HN8.out.1 HFA.out fun _ _ h => h) (HN8.out.2.trans HFA.out) (v' := .slice A9 (np + 1) c9) ?_ ?_ ?_ hf10 hB10 HFEW.out
            · rw [← HNP.out]; exact HO9.out
            · rw [HV.out, ← HNP.out]; exact HG9.out
            · rw [HV.out, ← HNP.out]; exact HK9.out
          have HZ : Hid (∀ W, Fr NoBlk (w9.setCell ⟨gl, 6, none⟩ (.slice A9 (np + 1) c9)) W → LPost w w0 gd gl rr S (.returned (.int .i64 0)) W) := by
            intro W hf
            rw [HLP2.out]
            refine ⟨rfl, (HPU.out.1.less fun k hk => HSUB.out k hk).nofr hf, (HF04.out.trans ((HF67.out.trans HPU.out.2).less fun k hk => HSUB.out k hk)).trans (hf.mono fun _ _ h => h.elim)⟩
          clear hB10 hf10 HPU HO9 HG9 HK9 HB9
          go_wp2_with fail
          go_ret
          exact HZ.out _ (by first | exact Fr.refl _ _ | exact (Fr.refl _ _).drew)
        · go_simp
          go_at_call 24
          refine (HCL.out _ (Fr.refl _ _).drew).mono ?_
          rintro e w8 ⟨v8, rfl, hn8⟩
          obtain ⟨A8, c8, rfl, hc8, hA8⟩ := own_form hn8.own
          have HN8 : Hid (w8.ownsRow w7.heap.size 5 1 (.slice A8 r.length c8) r.length (cb r) ∧ Fr NoBlk w7 w8) := ⟨hn8.own, ((Fr.refl NoBlk w7).drew).trans hn8.fr⟩
          have k68 : w8.cell? ⟨gl, 6, none⟩ = some (.slice Av np cv) := by
            rw [(HL7.out.bk.fr HN8.out.2 fun h => h).cell 6, HNP.out, ← HV.out]
            rfl
          clear hn8 hc8 hA8
          go_wp2_with fail
          refine hK.out _ _ ?_ (fun hHeld => ?_)
          · trivial
          clear hK K
          try simp only [Act.put, List.setIfInBounds_toArray, List.set_cons_zero, List.set_cons_succ]
          refine wpAnyH_ready (rs := [4, 7]) (by kernel_rfl) (by simp) ?_
          refine AllReadyH.cons (o := ⟨some 79, _, _, _, _, _⟩) rfl (fun K hK => ?_) (AllReadyH.cons (o := ⟨some 82, _, _, _, _, _⟩) rfl (fun K hK => ?_) AllReadyH.nil)
          · go_simp
            refine hK.out _ _ ?_ (fun hHeld => ?_)
            · trivial
            clear hK K
            try simp only [Act.put, List.setIfInBounds_toArray, List.set_cons_zero, List.set_cons_succ]
            refine wpAnyH_ready (rs := [7]) (by kernel_rfl) (by simp) ?_
            refine AllReadyH.cons (o := ⟨some 82, _, _, _, _, _⟩) rfl (fun K hK => ?_) AllReadyH.nil
            go_simp
            have HFA : Hid (Fr NoBlk w8 (w8.alloc (.cells #[.slice A8 r.length c8] 34))) := (Fr.refl _ _).alloc _
            have HOWN : Hid ((w8.alloc (.cells #[.slice A8 r.length c8] 34)).ownsRow w.heap.size 34 1 (.slice Av np cv) np (g7.parts.map sl)) := by
              have h := own_fr (own_fr HL7.out.own HN8.out.2 fun _ _ h => h) HFA.out fun _ _ h => h
              rw [HV.out, ← HNP.out] at h
              exact h
            have HSZ : Hid (w.heap.size ≤ w8.heap.size) := Nat.le_trans (Nat.le_trans HA7.out.fr.size (Nat.le_refl _)) HN8.out.2.size
            skip
            refine hK.out _ _ ?_ (fun hHeld => ?_)
            · trivial
            clear hK K
            try simp only [Act.put, List.setIfInBounds_toArray, List.set_cons_zero, List.set_cons_succ]
            refine wpAnyH_ready (rs := [8]) (by kernel_rfl) (by simp) ?_
            refine AllReadyH.cons (o := ⟨some 83, _, _, _, _, _⟩) rfl (fun K hK => ?_) AllReadyH.nil
            refine step_app rfl _ _ 22 rfl w.heap.size 34 i0 (.slice none 0 0) 24 Tryd.underlying22 hi hz0 hz1 hz2 rfl (.slice Av np cv) np (g7.parts.map sl) rfl HOWN.out (some ⟨w8.heap.size, 0, none⟩) 1 1 [.slice A8 r.length c8] rfl rfl (Rd.new_marked w8 [.slice A8 r.length c8] 34 (0, 0)) (by intro u hu; rw [List.mem_singleton.1 hu]; rfl) (by intro h; cases h) (by unfold maxLen; omega) (by omega) (by have := HSZ.out; simp; omega) ?_
            intro v9 w9 ho9 hgrow _ hblk
            have hBA : Bk (w8.alloc (.cells #[.slice A8 r.length c8] 34)) gl 52 (g7.cells gd) := (HL7.out.bk.fr HN8.out.2 fun h => h).fr HFA.out fun h => h
            have hB9 : Bk w9 gl 52 (g7.cells gd) := hBA.fr (Fr.ofGrown hgrow) (fun e => own_apart HOWN.out hBA (by decide) e.symm)
            obtain ⟨A9, c9, rfl, hc9, hA9⟩ := own_form ho9
            have q6 : w9.cell? ⟨gl, 6, none⟩ = some (.slice Av np cv) := by rw [hB9.cell 6, HNP.out, ← HV.out]; rfl
            have q6f := hB9.free 6
            have HB9 := Lib.hid hB9
            have HO9 := Lib.hid ho9
            have HG9 := Lib.hid hgrow
            have HK9 := Lib.hid hblk
            clear ho9 hgrow hblk hBA hB9 hc9 hA9
            skip
            refine hK.out _ _ ?_ (fun hHeld => ?_)
            · trivial
            clear hK K
            try simp only [Act.put, List.setIfInBounds_toArray, List.set_cons_zero, List.set_cons_succ]
            refine wpAnyH_take (i := 9) (oi := ⟨some 84, _, _, _, _, _⟩) (v := ?_) rfl (by kernel_rfl) (by kernel_rfl) (by kernel_rfl) (fun _ _ _ h => h) (Or.inl ⟨by rfl, ?_⟩) (by assumption) ?_
            rotate_left 1
            · (intro w hSw; (try dsimp only at hSw); go_simp) <;> (with_reducible rfl)
            try simp only [Act.put, List.setIfInBounds_toArray, List.set_cons_zero, List.set_cons_succ]
            refine wpAnyH_take (i := 10) (oi := ⟨some 85, _, _, _, _, _⟩) (v := ?_) rfl (by kernel_rfl) (by kernel_rfl) (by kernel_rfl) (fun _ _ _ h => h) (Or.inl ⟨by rfl, ?_⟩) (by assumption) ?_
            rotate_left 1
            · (intro w hSw; (try dsimp only at hSw); go_simp) <;> (with_reducible rfl)
            try simp only [Act.put, List.setIfInBounds_toArray, List.set_cons_zero, List.set_cons_succ]
            refine wpAnyH_ready (rs := [11]) (by kernel_rfl) (by simp) ?_
            refine AllReadyH.cons (o := ⟨none, _, _, _, _, _⟩) rfl (fun K hK => ?_) AllReadyH.nil
            go_simp
            refine hK.out _ _ ?_ (fun hHeld => ?_)
            · trivial
            clear hK K
            try simp only [Act.put, List.setIfInBounds_toArray, List.set_cons_zero, List.set_cons_succ]
            refine wpAnyH_done (by kernel_rfl) ?_ _
            have hB10 : Bk (w9.setCell ⟨gl, 6, none⟩ (.slice A9 (np + 1) c9)) gl 52 (Lg.cells gd { g7 with rv := .slice A9 (np + 1) c9 }) := HB9.out.put 6 (.slice A9 (np + 1) c9)
            have hf10 : Fr (fun j => j = gl) w9 (w9.setCell ⟨gl, 6, none⟩ (.slice A9 (np + 1) c9)) := (Fr.refl (fun j => j = gl) w9).setCell (p := ⟨gl, 6, none⟩) (fun _ => rfl) _
            have HPU : Hid (WL w (w9.setCell ⟨gl, 6, none⟩ (.slice A9 (np + 1) c9)) gd p6 gl (PL.with { g.pl with last := part, used := used + fo.length, waits := true } [r]) S' ∧ Fr (Loose w S') w7 (w9.setCell ⟨gl, 6, none⟩ (.slice A9 (np + 1) c9))) := by
              refine WL.push (q := (A8, c8, r)) (w1 := w8.alloc (.cells #[.slice A8 r.length c8] 34)) (w2 := w9) HPL7.out HL7.out HA7.out HS7.out HT7.out (by show r.length ≤ 4096; omega) (own_fr HN8.out.1 HFA.out fun _ _ h => h) (HN8.out.2.trans HFA.out) (v' := .slice A9 (np + 1) c9) ?_ ?_ ?_ hf10 hB10 HFEW.out
              · rw [← HNP.out]; exact HO9.out
              · rw [HV.out, ← HNP.out]; exact HG9.out
              · rw [HV.out, ← HNP.out]; exact HK9.out
            have HZ : Hid (∀ W, Fr NoBlk (w9.setCell ⟨gl, 6, none⟩ (.slice A9 (np + 1) c9)) W → LPost w w0 gd gl rr S (.returned (.int .i64 0)) W) := by
              intro W hf
              rw [HLP2.out]
              refine ⟨rfl, (HPU.out.1.less fun k hk => HSUB.out k hk).nofr hf, (HF04.out.trans ((HF67.out.trans HPU.out.2).less fun k hk => HSUB.out k hk)).trans (hf.mono fun _ _ h => h.elim)⟩
            clear hB10 hf10 HPU HO9 HG9 HK9 HB9
            go_wp2_with fail
            go_ret
            exact HZ.out _ (by first | exact Fr.refl _ _ | exact (Fr.refl _ _).drew)
          · go_simp
            have HFA : Hid (Fr NoBlk w8 (w8.alloc (.cells #[.slice A8 r.length c8] 34))) := (Fr.refl _ _).alloc _
            have HOWN : Hid ((w8.alloc (.cells #[.slice A8 r.length c8] 34)).ownsRow w.heap.size 34 1 (.slice Av np cv) np (g7.parts.map sl)) := by
              have h := own_fr (own_fr HL7.out.own HN8.out.2 fun _ _ h => h) HFA.out fun _ _ h => h
              rw [HV.out, ← HNP.out] at h
              exact h
            have k69 : (w8.alloc (.cells #[.slice A8 r.length c8] 34)).cell? ⟨gl, 6, none⟩ = some (.slice Av np cv) := by
              rw [((HL7.out.bk.fr HN8.out.2 fun h => h).fr HFA.out fun h => h).cell 6, HNP.out, ← HV.out]
              rfl
            have HSZ : Hid (w.heap.size ≤ w8.heap.size) := Nat.le_trans (Nat.le_trans HA7.out.fr.size (Nat.le_refl _)) HN8.out.2.size
            skip
            refine hK.out _ _ ?_ (fun hHeld => ?_)
            · trivial
            clear hK K
            try simp only [Act.put, List.setIfInBounds_toArray, List.set_cons_zero, List.set_cons_succ]
            refine wpAnyH_ready (rs := [4]) (by kernel_rfl) (by simp) ?_
            refine AllReadyH.cons (o := ⟨some 79, _, _, _, _, _⟩) rfl (fun K hK => ?_) AllReadyH.nil
            go_simp
            refine hK.out _ _ ?_ (fun hHeld => ?_)
            · trivial
            clear hK K
            try simp only [Act.put, List.setIfInBounds_toArray, List.set_cons_zero, List.set_cons_succ]
            refine wpAnyH_ready (rs := [8]) (by kernel_rfl) (by simp) ?_
            refine AllReadyH.cons (o := ⟨some 83, _, _, _, _, _⟩) rfl (fun K hK => ?_) AllReadyH.nil
            refine step_app rfl _ _ 22 rfl w.heap.size 34 i0 (.slice none 0 0) 24 Tryd.underlying22 hi hz0 hz1 hz2 rfl (.slice Av np cv) np (g7.parts.map sl) rfl HOWN.out (some ⟨w8.heap.size, 0, none⟩) 1 1 [.slice A8 r.length c8] rfl rfl (Rd.new_marked w8 [.slice A8 r.length c8] 34 (0, 0)) (by intro u hu; rw [List.mem_singleton.1 hu]; rfl) (by intro h; cases h) (by unfold maxLen; omega) (by omega) (by have := HSZ.out; simp; omega) ?_
            intro v9 w9 ho9 hgrow _ hblk
            have hBA : Bk (w8.alloc (.cells #[.slice A8 r.length c8] 34)) gl 52 (g7.cells gd) := (HL7.out.bk.fr HN8.out.2 fun h => h).fr HFA.out fun h => h
            have hB9 : Bk w9 gl 52 (g7.cells gd) := hBA.fr (Fr.ofGrown hgrow) (fun e => own_apart HOWN.out hBA (by decide) e.symm)
            obtain ⟨A9, c9, rfl, hc9, hA9⟩ := own_form ho9
            have q6 : w9.cell? ⟨gl, 6, none⟩ = some (.slice Av np cv) := by rw [hB9.cell 6, HNP.out, ← HV.out]; rfl
            have q6f := hB9.free 6
            have HB9 := Lib.hid hB9
            have HO9 := Lib.hid ho9
            have HG9 := Lib.hid hgrow
            have HK9 := Lib.hid hblk
            clear ho9 hgrow hblk hBA hB9 hc9 hA9
            skip
            refine hK.out _ _ ?_ (fun hHeld => ?_)
            · trivial
            clear hK K
            try simp only [Act.put, List.setIfInBounds_toArray, List.set_cons_zero, List.set_cons_succ]
            refine wpAnyH_take (i := 9) (oi := ⟨some 84, _, _, _, _, _⟩) (v := ?_) rfl (by kernel_rfl) (by kernel_rfl) (by kernel_rfl) (fun _ _ _ h => h) (Or.inl ⟨by rfl, ?_⟩) (by assumption) ?_
            rotate_left 1
            · (intro w hSw; (try dsimp only at hSw); go_simp) <;> (with_reducible rfl)
            try simp only [Act.put, List.setIfInBounds_toArray, List.set_cons_zero, List.set_cons_succ]
            refine wpAnyH_take (i := 10) (oi := ⟨some 85, _, _, _, _, _⟩) (v := ?_) rfl (by kernel_rfl) (by kernel_rfl) (by kernel_rfl) (fun _ _ _ h => h) (Or.inl ⟨by rfl, ?_⟩) (by assumption) ?_
            rotate_left 1
            · (intro w hSw; (try dsimp only at hSw); go_simp) <;> (with_reducible rfl)
            try simp only [Act.put, List.setIfInBounds_toArray, List.set_cons_zero, List.set_cons_succ]
            refine wpAnyH_ready (rs := [11]) (by kernel_rfl) (by simp) ?_
            refine AllReadyH.cons (o := ⟨none, _, _, _, _, _⟩) rfl (fun K hK => ?_) AllReadyH.nil
            go_simp
            refine hK.out _ _ ?_ (fun hHeld => ?_)
            · trivial
            clear hK K
            try simp only [Act.put, List.setIfInBounds_toArray, List.set_cons_zero, List.set_cons_succ]
            refine wpAnyH_done (by kernel_rfl) ?_ _
            have hB10 : Bk (w9.setCell ⟨gl, 6, none⟩ (.slice A9 (np + 1) c9)) gl 52 (Lg.cells gd { g7 with rv := .slice A9 (np + 1) c9 }) := HB9.out.put 6 (.slice A9 (np + 1) c9)
            have hf10 : Fr (fun j => j = gl) w9 (w9.setCell ⟨gl, 6, none⟩ (.slice A9 (np + 1) c9)) := (Fr.refl (fun j => j = gl) w9).setCell (p := ⟨gl, 6, none⟩) (fun _ => rfl) _
            have HPU : Hid (WL w (w9.setCell ⟨gl, 6, none⟩ (.slice A9 (np + 1) c9)) gd p6 gl (PL.with { g.pl with last := part, used := used + fo.length, waits := true } [r]) S' ∧ Fr (Loose w S') w7 (w9.setCell ⟨gl, 6, none⟩ (.slice A9 (np + 1) c9))) := by
              refine WL.push (q := (A8, c8, r)) (w1 := w8.alloc (.cells #[.slice A8 r.length c8] 34)) (w2 := w9) HPL7.out HL7.out HA7.out HS7.out HT7.out (by show r.length ≤ 4096; omega) (own_fr HN8.out.1 HFA.out fun _ _ h => h) (HN8.out.2.trans HFA.out) (v' := .slice A9 (np + 1) c9) ?_ ?_ ?_ hf10 hB10 HFEW.out
              · rw [← HNP.out]; exact HO9.out
              · rw [HV.out, ← HNP.out]; exact HG9.out
              · rw [HV.out, ← HNP.out]; exact HK9.out
            have HZ : Hid (∀ W, Fr NoBlk (w9.setCell ⟨gl, 6, none⟩ (.slice A9 (np + 1) c9)) W → LPost w w0 gd gl rr S (.returned (.int .i64 0)) W) := by
              intro W hf
              rw [HLP2.out]
              refine ⟨rfl, (HPU.out.1.less fun k hk => HSUB.out k hk).nofr hf, (HF04.out.trans ((HF67.out.trans HPU.out.2).less fun k hk => HSUB.out k hk)).trans (hf.mono fun _ _ h => h.elim)⟩
            clear hB10 hf10 HPU HO9 HG9 HK9 HB9
            go_wp2_with fail
            go_ret
            exact HZ.out _ (by first | exact Fr.refl _ _ | exact (Fr.refl _ _).drew)
      · have HLP2 : Hid (rr = (p6, g.pl, z)) := by show _ = _; rw [HPR.out, HLP.out, if_neg hz]
        have HZ : Hid (LPost w w0 gd gl rr S (.returned (.int .i64 z)) w6) := by
          rw [HLP2.out]
          refine ⟨rfl, ⟨g, rfl, HL6.out, HA6.out.prot (Fr.refl NoBlk _) (fun _ _ h => h.elim) fun k hk => .inl (hk.imp id (HSUB.out k)), fun k hk => HSG.out k (HSUB.out k hk), fun k hk => HT6.out k (HSUB.out k hk)⟩, HF04.out.trans (HF6.out.less fun k hk => HSUB.out k hk)⟩
        have t1 : (z != 0) = true := bne_iff_ne.2 hz
        clear HL6 HA6 HF6 HLP HLP2
        go_wp2_with fail
        go_ret
        exact HZ.out
end Go.Proofs.YthnaggmafbhdmaaDoor
