/- SnapPlays is true: what is loaded behind any script is what the document says, and so are the files. No condition but what the card ties. -/
import Derived.Test.YtokonhcphhpogaaDoorLaw
import Derived.Test.YtokonhcphhpogaaDoorOpen
import Derived.Test.YtokonhcphhpogaaDoorGrAll
import Derived.Test.YtokonhcphhpogaaDoorLowB
import Derived.Test.YtokonhcphhpogaaDoorRAll
import Derived.BigQuiet
namespace Go.Proofs.YtokonhcphhpogaaDoor.snapPlays
open Go.ChangeShapes Go.WideShapes Go.ChangeAt Go.RowKit

theorem norm_save (p : PD) (n b : Bs) : psave (norm p) n b = (norm (psave p n b).1, (psave p n b).2) := by
  have h1 : pRemove (norm p) (draft n) = (norm (pRemove p (draft n)).1, (pRemove p (draft n)).2) := norm_change _ _ _ _
  have h2 := norm_append (pRemove p (draft n)).1 (draft n) (pk b)
  have h3 : pSync (norm (pAppend (pRemove p (draft n)).1 (draft n) (pk b)).1) (draft n) = (norm (pSync (pAppend (pRemove p (draft n)).1 (draft n) (pk b)).1 (draft n)).1, (pSync (pAppend (pRemove p (draft n)).1 (draft n) (pk b)).1 (draft n)).2) := norm_change _ _ _ _
  have h4 : pRename (norm (pSync (pAppend (pRemove p (draft n)).1 (draft n) (pk b)).1 (draft n)).1) (draft n) n = (norm (pRename (pSync (pAppend (pRemove p (draft n)).1 (draft n) (pk b)).1 (draft n)).1 (draft n) n).1, (pRename (pSync (pAppend (pRemove p (draft n)).1 (draft n) (pk b)).1 (draft n)).1 (draft n) n).2) := norm_change _ _ _ _
  unfold psave
  rw [h1]
  dsimp only
  rw [h2]
  dsimp only
  rw [h3]
  dsimp only
  rw [h4]
  split
  · rfl
  split
  · rfl
  split
  · rfl
  split <;> rfl
theorem pload_len (p : PD) (n : Bs) : (pload p n).1.length ≤ (pload p n).1.length := Nat.le_refl _
theorem RIn.mono {w : World} {b b' : Nat} {m : RM} (h : RIn w b m) (hb : b' ≤ b) : RIn w b' m :=
  ⟨h.bk, Nat.le_trans hb h.gb, own_base h.row hb, fun f hf => let d := h.dat f hf; ⟨d.rd, d.le, d.max, d.nil, fun hp k hk => ⟨Nat.le_trans hb (d.blk hp k hk).1, (d.blk hp k hk).2⟩⟩⟩
theorem Pair.none {v wr : World} {gd : Nat} {p : PD} {m : RM} {E : Nat → Prop} (h : Pair v wr gd p m E) : Pair v wr gd p m NoBlk := h.more (Fr.refl _ _) fun _ h => h.elim
theorem Pair.new {v w3 w4 : World} {gd n : Nat} (h : At v w3 v.heap.size gd (pNew n)) {m : RM} (hr : RIn w4 w3.heap.size m) (hf : Fr NoBlk w3 w4) : Pair v w4 gd (pNew n) m NoBlk :=
  ⟨h.prot hf fun _ hk => hk.elim (fun h2 => .inl (hr.blk h2).1) fun h2 => h2.elim, RIn.mono hr h.fr.size, fun _ h => h.elim⟩
theorem Pair.crash {v w4 w5 w6 w7 : World} {gd : Nat} {p : PD} (hx : ∀ S', (∀ k, S' k → k < w4.heap.size) → AtS v w5 gd p S') (hf : Fr NoBlk w5 w6) {m : RM} (hr : RIn w7 w6.heap.size m) (hf2 : Fr NoBlk w6 w7) : Pair v w7 gd p m NoBlk := by
  have h0 := hx NoS fun _ h => h.elim
  have hs := h0.fr.size
  have hs2 := hf.size
  exact ⟨h0.prot (hf.trans hf2) (fun _ _ h => h.elim) fun k hk => hk.elim (fun h2 => .inr (by have := (hr.blk h2).1; omega)) fun h2 => h2.elim, RIn.mono hr (by omega), fun _ h => h.elim⟩

set_option maxRecDepth 100000 in
set_option maxHeartbeats 8000000 in
theorem walk (w : World) (ht : Tab w) (r : Int) (A : Option Addr) (c : Nat) (xs : List Opn) (hr : Rd w A (opsc xs)) (hx : ∀ x ∈ xs, OpIn w x) (hm : xs.length ≤ maxLen) :
    Calls Tryd.prog 4 #[.int .i64 r, .slice A xs.length c] w fun e w' => e = .returned (.bool true) ∧ Fr NoBlk w w' := by
  obtain ⟨i0, hi, hz0, hz1, hz2⟩ := info_parts byteInfo
  have HT0 := Lib.hid ht
  have HR := Lib.hid hr
  have HX := Lib.hid hx
  have HM := Lib.hid hm
  obtain ⟨rq, hrq, hrq1⟩ := low_bits r 65535 (by omega)
  rw [show ((65535 : Nat) : Int) = 65535 from rfl] at hrq
  have er : IntKind.i64.wrap (1 + (rq : Int)) = ((rq + 1 : Nat) : Int) := by rw [IntWalk.i64_in _ (by omega)]; omega
  clear hr hx ht
  unfold maxLen at hm
  go_enter Tryd.func4, Tryd.ntmps4
  go_wp2_with fail
  refine (speaks_any w HT0.out).mono ?_
  rintro e w1 ⟨rfl, hf1⟩
  have HF1 := Lib.hid hf1
  clear hf1
  go_wp2_with fail
  refine (great_any w1 A c xs (HR.out.nofr HF1.out) (fun x h => ?_) HM.out).mono ?_
  · have h1 := HX.out x h
    exact ⟨⟨⟨h1.1.1.1.nofr HF1.out, h1.1.1.2⟩, h1.1.2⟩, ⟨⟨h1.2.1.1.1.nofr HF1.out, h1.2.1.1.2⟩, h1.2.1.2⟩, h1.2.2⟩
  rintro e w2 ⟨⟨bb, rfl, hsm⟩, hf2⟩
  have HF2 := Lib.hid (HF1.out.trans hf2)
  have HSM := Lib.hid hsm
  have HT := Lib.hid (HT0.out.fr HF2.out fun h => h)
  clear hf2 hsm
  cases bb
  rotate_left
  · go_wp2_with fail
    go_ret
    exact ⟨rfl, HF2.out⟩
  have HS := Lib.hid (HSM.out rfl)
  clear HSM HF1 HT0
  go_wp2_with fail
  refine (new_at w2 w2 (Fr.refl _ _) (rq + 1) (by omega) (by omega)).mono ?_
  rintro e w3 ⟨gd0, rfl, h3, hf3⟩
  have H3 := Lib.hid h3
  have HN := Lib.hid (rnew_any w3 (rq + 1))
  clear h3 hf3
  go_wp2_with fail
  refine HN.out.mono ?_
  clear HN
  rintro e w4 ⟨rfl, hr4, hf4⟩
  have HP4 : Hid (Pair w2 w4 gd0 (pNew (rq + 1)) (rnew w3.heap.size (rq + 1)) NoBlk) := Pair.new H3.out hr4 hf4
  have HN4 : Hid ((rnew w3.heap.size (rq + 1)).pd = norm (pNew (rq + 1))) := rfl
  clear hr4 hf4 H3
  go_wp2_with fail
  go_loopw [5, 7, 35] (fun dv mv s wr => ∃ (i gd : Nat) (p : PD) (m : RM), i ≤ xs.length ∧ dv = .pointer (some ⟨gd, 0, none⟩) ∧ mv = .pointer (some ⟨m.g, 0, none⟩) ∧ s = .int .i64 i ∧ Hid (m.pd = norm p) ∧ Hid (Pair w2 wr gd p m NoBlk)) (fun _ _ s _ => xs.length - (intOf s).toNat)
  case atStart => exact ⟨0, gd0, _, rnew w3.heap.size (rq + 1), Nat.zero_le _, rfl, rfl, rfl, HN4, HP4⟩
  case round =>
    clear HP4 HN4
    obtain ⟨k, gd, p, m, hk, rfl, rfl, rfl, HMP, HPR⟩ := hrel
    have HFR := Lib.hid (HF2.out.trans HPR.out.fr)
    by_cases hlt : k < xs.length
    · obtain ⟨x, hx⟩ : ∃ x, xs[k]? = some x := ⟨_, List.getElem?_eq_getElem hlt⟩
      obtain ⟨b, o, rfl, c0, c1, c2, c3, c4⟩ := (HR.out.nofr HFR.out).opn hx
      have HV : Hid (OpIn w2 x) := by
        have h1 := HX.out x (List.mem_of_getElem? hx)
        exact ⟨⟨⟨h1.1.1.1.nofr HF2.out, h1.1.1.2⟩, h1.1.2⟩, ⟨⟨h1.2.1.1.1.nofr HF2.out, h1.2.1.1.2⟩, h1.2.1.2⟩, h1.2.2⟩
      have HSX := Lib.hid (HS.out.o x (List.mem_of_getElem? hx))
      have HKN := Lib.hid HV.out.2.1.1
      have hkl : x.keeps.2.2.length ≤ 100 := HSX.out.2.2
      have hnl : x.name.length ≤ 200 := HSX.out.2.1
      have HSX5 : Hid (x.data.2.2.length ≤ 5000) := HSX.out.1
      clear hx HSX
      obtain ⟨kind, n, nm, ⟨va, vc, vb⟩, ⟨ka, kc, kb⟩⟩ := x
      unfold st at c2
      unfold sl at c3
      unfold nsl at c4
      dsimp only at c0 c1 c2 c3 c4 HKN hkl hnl HV HSX5
      obtain ⟨wB, hwB⟩ : ∃ wB, wB = wr.alloc (.cells #[.int .i64 kind, .int .i64 n, .string (bstr nm), .slice va vb.length vc, .slice ka kb.length kc] 40) := ⟨_, rfl⟩
      have HWB := Lib.hid hwB
      have HFB : Hid (Fr NoBlk wr wB) := by show Fr _ _ _; rw [hwB]; exact (Fr.refl _ _).alloc _
      have HBB : Hid (Bk wB wr.heap.size 40 #[.int .i64 kind, .int .i64 n, .string (bstr nm), .slice va vb.length vc, .slice ka kb.length kc]) := by show Bk _ _ _ _; rw [hwB]; exact Bk.new _ _ _
      have HPB := Lib.hid (HPR.out.nofr HFB.out)
      have HFT : Hid (RFit m) := HPB.out.fit HMP.out rfl rfl HPB.out.ats.leftB
      have KS : ∀ W, Fr NoBlk wB W → W.cell? ⟨wr.heap.size, 4, none⟩ = some (.slice ka kb.length kc) ∧ True ∧ True := fun W hW => ⟨(HBB.out.fr hW fun h => h).cell 4, trivial, trivial⟩
      obtain ⟨q, hq, hq1⟩ := low_bits kind 3 (by omega)
      rw [show ((3 : Nat) : Int) = 3 from rfl] at hq
      clear hwB
      by_cases hq0 : q = 0
      · subst hq0
        go_upto_region 16 with fail
        rw [← HWB.out]
        clear HWB
        refine wp_region_held_drew (S := fun w' => w'.cell? ⟨wr.heap.size, 4, none⟩ = some (.slice ka kb.length kc) ∧ True ∧ True) (by kernel_rfl) (by exact KS _ (Fr.refl _ _).drew) (fun hHeld => ?_)
        refine wpAnyH_take (i := 0) (oi := ⟨some 59, _, _, _, _, _⟩) (v := ?_) rfl (by kernel_rfl) (by kernel_rfl) (by kernel_rfl) (fun _ _ _ h => h) (Or.inl ⟨by rfl, ?_⟩) (by assumption) ?_
        rotate_left 1
        · (intro w hSw; (try dsimp only at hSw); obtain ⟨hSa, hSb, hSc⟩ := hSw; go_simp) <;> (with_reducible rfl)
        try simp only [Act.put, List.setIfInBounds_toArray, List.set_cons_zero, List.set_cons_succ]
        refine wpAnyH_take (i := 1) (oi := ⟨some 60, _, _, _, _, _⟩) (v := ?_) rfl (by kernel_rfl) (by kernel_rfl) (by kernel_rfl) (fun _ _ _ h => h) (Or.inl ⟨by rfl, ?_⟩) (by assumption) ?_
        rotate_left 1
        · (intro w hSw; (try dsimp only at hSw); obtain ⟨hSa, hSb, hSc⟩ := hSw; go_simp) <;> (with_reducible rfl)
        try simp only [Act.put, List.setIfInBounds_toArray, List.set_cons_zero, List.set_cons_succ]
        refine wpAnyH_take (i := 2) (oi := ⟨some 61, _, _, _, _, _⟩) (v := ?_) rfl (by kernel_rfl) (by kernel_rfl) (by kernel_rfl) (fun _ _ _ h => h) (Or.inl ⟨by rfl, ?_⟩) (by assumption) ?_
        rotate_left 1
        · (intro w hSw; (try dsimp only at hSw); obtain ⟨hSa, hSb, hSc⟩ := hSw; go_simp) <;> (with_reducible rfl)
        try simp only [Act.put, List.setIfInBounds_toArray, List.set_cons_zero, List.set_cons_succ]
        refine wpAnyH_take (i := 4) (oi := ⟨some 63, _, _, _, _, _⟩) (v := ?_) rfl (by kernel_rfl) (by kernel_rfl) (by kernel_rfl) (fun _ _ _ h => h) (Or.inl ⟨by rfl, ?_⟩) (by assumption) ?_
        rotate_left 1
        · (intro w hSw; (try dsimp only at hSw); obtain ⟨hSa, hSb, hSc⟩ := hSw; go_simp) <;> (with_reducible rfl)
        try simp only [Act.put, List.setIfInBounds_toArray, List.set_cons_zero, List.set_cons_succ]
        refine wpAnyH_take (i := 5) (oi := ⟨some 64, _, _, _, _, _⟩) (v := ?_) rfl (by kernel_rfl) (by kernel_rfl) (by kernel_rfl) (fun _ _ _ h => h) (Or.inl ⟨by rfl, ?_⟩) (by assumption) ?_
        rotate_left 1
        · (intro w hSw; (try dsimp only at hSw); obtain ⟨hSa, hSb, hSc⟩ := hSw; go_simp) <;> (with_reducible rfl)
        try simp only [Act.put, List.setIfInBounds_toArray, List.set_cons_zero, List.set_cons_succ]
        refine wpAnyH_take (i := 6) (oi := ⟨some 65, _, _, _, _, _⟩) (v := ?_) rfl (by kernel_rfl) (by kernel_rfl) (by kernel_rfl) (fun _ _ _ h => h) (Or.inl ⟨by rfl, ?_⟩) (by assumption) ?_
        rotate_left 1
        · (intro w hSw; (try dsimp only at hSw); obtain ⟨hSa, hSb, hSc⟩ := hSw; go_simp) <;> (with_reducible rfl)
        try simp only [Act.put, List.setIfInBounds_toArray, List.set_cons_zero, List.set_cons_succ]
        refine wpAnyH_ready (rs := [3]) (by kernel_rfl) (by simp) ?_
        refine AllReadyH.cons (o := ⟨some 62, _, _, _, _, _⟩) rfl (fun K hK => ?_) AllReadyH.nil
        go_simp
        go_at_call 16
        refine (crashS (HPB.out.nofr (Fr.refl _ _).drew).ats ka kb.length kc kb rfl (HKN.out.1.nofr (HPB.out.nofr (Fr.refl _ _).drew).fr) (by unfold maxLen; omega)).mono ?_
        rintro e w5 ⟨gx, rfl, hx5, hf5⟩
        have HX5 := Lib.hid hx5
        have HF5 : Hid (Fr NoBlk wB w5) := ((Fr.refl _ _).drew).trans hf5
        have HP5 := Lib.hid (HPB.out.nofr HF5.out)
        have s5 := KS w5 HF5.out
        clear hx5 hf5
        go_wp2_with fail
        refine hK.out _ _ ?_ (fun hHeld => ?_)
        · exact s5
        clear hK K
        try simp only [Act.put, List.setIfInBounds_toArray, List.set_cons_zero, List.set_cons_succ]
        refine wpAnyH_ready (rs := [7]) (by kernel_rfl) (by simp) ?_
        refine AllReadyH.cons (o := ⟨some 66, _, _, _, _, _⟩) rfl (fun K hK => ?_) AllReadyH.nil
        go_simp
        go_at_call 17
        refine (rcrash_any w5 _ m HP5.out.rin HFT.out ka kc kb (HKN.out.1.nofr HP5.out.fr) (by unfold maxLen; omega)).mono ?_
        rintro e w6 ⟨m6, rfl, hm6, hr6, hf6⟩
        have HM6 : Hid (m6.pd = norm (pCrash p kb)) := by
          show _ = _
          rw [hm6, HMP.out]; rfl
        have HP60 : Hid (Pair w2 w6 gx (pCrash p kb) m6 NoBlk) := Pair.crash HX5.out (Fr.refl _ _) hr6 hf6
        have HBK6 := Lib.hid (HBB.out.fr (HF5.out.trans hf6) fun h => h)
        have s6 := KS w6 (HF5.out.trans hf6)
        clear hm6 hr6 hf6
        go_wp2_with fail
        refine hK.out _ _ ?_ (fun hHeld => ?_)
        · exact s6
        clear hK K
        try simp only [Act.put, List.setIfInBounds_toArray, List.set_cons_zero, List.set_cons_succ]
        refine wpAnyH_take (i := 8) (oi := ⟨some 5, _, _, _, _, _⟩) (v := ?_) rfl (by kernel_rfl) (by kernel_rfl) (by kernel_rfl) (fun _ _ _ h => h) (Or.inl ⟨by rfl, ?_⟩) (by assumption) ?_
        rotate_left 1
        · (intro w hSw; (try dsimp only at hSw); obtain ⟨hSa, hSb, hSc⟩ := hSw; go_simp) <;> (with_reducible rfl)
        try simp only [Act.put, List.setIfInBounds_toArray, List.set_cons_zero, List.set_cons_succ]
        refine wpAnyH_take (i := 9) (oi := ⟨some 7, _, _, _, _, _⟩) (v := ?_) rfl (by kernel_rfl) (by kernel_rfl) (by kernel_rfl) (fun _ _ _ h => h) (Or.inl ⟨by rfl, ?_⟩) (by assumption) ?_
        rotate_left 1
        · (intro w hSw; (try dsimp only at hSw); obtain ⟨hSa, hSb, hSc⟩ := hSw; go_simp) <;> (with_reducible rfl)
        try simp only [Act.put, List.setIfInBounds_toArray, List.set_cons_zero, List.set_cons_succ]
        refine wpAnyH_done (by kernel_rfl) ?_ _
        obtain ⟨gd6, hgd6⟩ : ∃ g, g = gx := ⟨_, rfl⟩
        obtain ⟨p6, hp6⟩ : ∃ q, q = pCrash p kb := ⟨_, rfl⟩
        rw [← hp6] at HM6
        have HP6 : Hid (Pair w2 w6 gd6 p6 m6 NoBlk) := by show Pair _ _ _ _ _ _; rw [hgd6, hp6]; exact HP60.out
        rw [← hgd6]
        clear hgd6 hp6 HP60 HX5 HP5 HF5
        have b2 : w6.cell? ⟨wr.heap.size, 2, none⟩ = some (.string (bstr nm)) := HBK6.out.cell 2
        have HLD := Lib.hid (load_any w2 w6 gd6 p6 _ HP6.out.ats HT.out nm (by unfold maxLen; omega))
        have HFT6 : Hid (RFit m6) := HP6.out.fit HM6.out rfl rfl HP6.out.ats.leftB
        have HRL := Lib.hid fun W (hf : Fr NoBlk w6 W) => rload_any W _ m6 (HP6.out.rin.nofr hf) HFT6.out nm
        have HNS := Lib.hid fun W (hf : Fr NoBlk w6 W) => namesS (HP6.out.ats.nofr hf)
        have HLQ : Hid (pload m6.pd nm = pload p6 nm) := by show _ = _; rw [HM6.out]; rfl
        rw [HLQ.out] at HRL
        have hpf : m6.pfs = p6.files := congrArg PD.files HM6.out
        rw [← hpf] at HNS
        have HLE := Lib.hid (pload_len p6 nm)
        clear HLQ
        generalize pload p6 nm = u at *
        obtain ⟨d, z⟩ := u
        dsimp only at HLE
        go_wp2_with fail
        refine HLD.out.mono ?_
        clear HLD
        rintro e w7 ⟨v7, rfl, hn7⟩
        obtain ⟨A7, c7, rfl, _, _⟩ := own_form hn7.own
        have HF7 := Lib.hid hn7.fr
        have HR7 := Lib.hid (Rd.of_own hn7.own)
        have b7 : w7.cell? ⟨wr.heap.size, 2, none⟩ = some (.string (bstr nm)) := (HBK6.out.fr hn7.fr fun h => h).cell 2
        have HRC := Lib.hid (HRL.out w7 hn7.fr)
        clear hn7 HRL
        go_wp2_with fail
        refine HRC.out.mono ?_
        clear HRC
        rintro e w8 ⟨v8, rfl, hn8⟩
        obtain ⟨A8, c8, rfl, _, _⟩ := own_form hn8.own
        have HF8 := Lib.hid (HF7.out.trans hn8.fr)
        have HR8 := Lib.hid (Rd.of_own hn8.own)
        have HR78 := Lib.hid (HR7.out.nofr hn8.fr)
        have HNC := Lib.hid (HNS.out w8 HF8.out)
        clear hn8 HNS
        go_wp2_with fail
        refine HNC.out.mono ?_
        clear HNC
        rintro e w9 ⟨A9, c9, rfl, htx⟩
        have HF9 := Lib.hid (HF8.out.trans htx.fr)
        have HP9 := Lib.hid (HP6.out.nofr HF9.out)
        have HTX := Lib.hid htx.rd
        have s1 := strBs w9 A7 d.length c7 d rfl (HR78.out.nofr htx.fr)
        have s2 := strBs w9 A8 d.length c8 d rfl (HR8.out.nofr htx.fr)
        have e4 := bstr_toList d
        have hln : (m6.pfs.map (·.name)).length = m6.fs.length := by rw [List.length_map, List.length_map]
        obtain ⟨_, k1, _, _⟩ := HP9.out.rin.cell
        have hg9 := HP9.out.rin.bk.lt
        have hfs : m6.fs.length ≤ 32 := HFT6.out.len
        rw [hln]
        clear htx HP6 HF7 HF8 HR7 HR8 HR78 HBK6 b2 b7
        generalize d.length = dn at *
        go_wp2_with fail
        go_loopw [117] (fun s wx => ∃ j : Nat, j ≤ m6.fs.length ∧ s = .int .i64 j ∧ Hid (Pair w2 wx gd6 p6 m6 NoBlk) ∧ Hid (Rd wx A9 (sts (m6.pfs.map (·.name))))) (fun s _ => m6.fs.length - (intOf s).toNat)
        case atStart => exact ⟨0, Nat.zero_le _, rfl, HP9, HTX⟩
        case round =>
          clear HP9 HTX k1 hg9 s1 s2
          obtain ⟨j, hj, rfl, HPX, HTX⟩ := hrel
          obtain ⟨_, k1, _, _⟩ := HPX.out.rin.cell
          have hgx := HPX.out.rin.bk.lt
          by_cases hjl : j < m6.fs.length
          · obtain ⟨f, hf⟩ : ∃ f, m6.fs[j]? = some f := ⟨_, List.getElem?_eq_getElem hjl⟩
            obtain ⟨b6, hA6, _, q0, _, _, _⟩ := HPX.out.rin.file hf
            obtain ⟨nb, no, rfl, hnc⟩ := HTX.out.at_ (k := j) (v := st f.pf.name) (by
              show ((m6.pfs.map (·.name)).map st)[j]? = _
              rw [List.getElem?_map, List.getElem?_map, show m6.pfs[j]? = some f.pf by show (m6.fs.map RF.pf)[j]? = _; rw [List.getElem?_map, hf]; rfl]; rfl)
            unfold st at hnc
            rw [hA6] at k1
            have e5 := bstr_toList f.pf.name
            generalize f.pf.name = fn at *
            have i0' : (0 : Int) ≤ (j : Int) := by omega
            have i1' : (j : Int) < (m6.fs.length : Int) := by omega
            clear hf hA6
            go_wp2_with fail
            go_quiet (fail)
            have HPQ := Lib.hid (HPX.out.nofr ((Fr.refl NoBlk _).drewN nq))
            have HTQ := Lib.hid (HTX.out.nofr ((Fr.refl NoBlk _).drewN nq))
            go_wp2_with fail
            go_roundw
            case rel => exact ⟨j + 1, by omega, by go_num, HPQ, HTQ⟩
            case measure => simp [intOf]; omega
          · have HPZ : Hid (Pair w2 _ gd6 p6 m6 NoBlk) := Pair.none HPX.out
            go_wp2_with fail
            go_roundw
            case rel => exact ⟨k + 1, gd6, p6, m6, by omega, rfl, rfl, by go_num, HM6, HPZ⟩
            case measure => simp [intOf]; omega
      by_cases hq1' : q = 1
      · subst hq1'
        go_upto_region 20 with fail
        rw [← HWB.out]
        clear HWB
        have HPE : Hid (Pair w2 wB gd p m fun k => k = wr.heap.size) := HPR.out.more HFB.out fun k hk => .inr ⟨by omega, by rw [hk]; exact HBB.out.lt⟩
        have HLM := Lib.hid (limitS HPE.out.ats n (rng_i64 HV.out.2.2.2))
        have b1 : wB.cell? ⟨wr.heap.size, 1, none⟩ = some (.int .i64 n) := HBB.out.cell 1
        go_wp2_with fail
        refine HLM.out.mono ?_
        clear HLM b1
        rintro e w5 ⟨rfl, ha5, hf5⟩
        have HP5 := Lib.hid (HPE.out.disk ha5 hf5)
        have HBK5 := Lib.hid (HBB.out.fr HP5.out.2 fun h => h rfl)
        have b1 : w5.cell? ⟨wr.heap.size, 1, none⟩ = some (.int .i64 n) := HBK5.out.cell 1
        have HLR := Lib.hid (rlimit_any w5 _ m HP5.out.1.rin n)
        clear ha5 hf5
        go_wp2_with fail
        refine HLR.out.mono ?_
        clear HLR
        rintro e w6 ⟨rfl, hp6⟩
        obtain ⟨m6, hm6⟩ : ∃ m6 : RM, m6 = { m with left := if n < 0 then -1 else n } := ⟨_, rfl⟩
        rw [← hm6] at hp6
        have HR6 := Lib.hid (HP5.out.1.ref hp6)
        have HG6 : Hid (m6.g = m.g) := hp6.g
        obtain ⟨p6, hp6'⟩ : ∃ p6 : PD, p6 = { p with left := n } := ⟨_, rfl⟩
        have HM6 : Hid (m6.pd = norm p6) := by
          have h1 := HMP.out
          have e1 : m.room = p.room := congrArg PD.room h1
          have e2 : m.down = p.down := congrArg PD.down h1
          have e3 : m.pfs = p.files := congrArg PD.files h1
          show _ = _
          rw [hm6, hp6']
          show (⟨m.room, if n < 0 then -1 else n, m.down, m.pfs⟩ : PD) = _
          rw [e1, e2, e3]
          rfl
        have HBK6 := Lib.hid (HBK5.out.fr HR6.out.2 fun h => h rfl)
        obtain ⟨E, hE⟩ : ∃ E : Nat → Prop, E = fun k => k = wr.heap.size := ⟨_, rfl⟩
        obtain ⟨gd6, hgd6⟩ : ∃ g, g = gd := ⟨_, rfl⟩
        have HP6 : Hid (Pair w2 w6 gd6 p6 m6 E) := by show Pair _ _ _ _ _ _; rw [hgd6, hp6', hE]; exact HR6.out.1
        rw [← hgd6]
        clear hp6 hm6 hp6' hE hgd6 HP5 HBK5 b1 HR6 HPE
        have b2 : w6.cell? ⟨wr.heap.size, 2, none⟩ = some (.string (bstr nm)) := HBK6.out.cell 2
        have HLD := Lib.hid (load_any w2 w6 gd6 p6 _ HP6.out.ats HT.out nm (by unfold maxLen; omega))
        have HFT6 : Hid (RFit m6) := HP6.out.fit HM6.out rfl rfl HP6.out.ats.leftB
        have HRL := Lib.hid fun W (hf : Fr NoBlk w6 W) => rload_any W _ m6 (HP6.out.rin.nofr hf) HFT6.out nm
        have HNS := Lib.hid fun W (hf : Fr NoBlk w6 W) => namesS (HP6.out.ats.nofr hf)
        have HLQ : Hid (pload m6.pd nm = pload p6 nm) := by show _ = _; rw [HM6.out]; rfl
        rw [HLQ.out, HG6.out] at HRL
        have hpf : m6.pfs = p6.files := congrArg PD.files HM6.out
        rw [← hpf] at HNS
        have HLE := Lib.hid (pload_len p6 nm)
        clear HLQ
        generalize pload p6 nm = u at *
        obtain ⟨d, z⟩ := u
        dsimp only at HLE
        go_wp2_with fail
        refine HLD.out.mono ?_
        clear HLD
        rintro e w7 ⟨v7, rfl, hn7⟩
        obtain ⟨A7, c7, rfl, _, _⟩ := own_form hn7.own
        have HF7 := Lib.hid hn7.fr
        have HR7 := Lib.hid (Rd.of_own hn7.own)
        have b7 : w7.cell? ⟨wr.heap.size, 2, none⟩ = some (.string (bstr nm)) := (HBK6.out.fr hn7.fr fun h => h).cell 2
        have HRC := Lib.hid (HRL.out w7 hn7.fr)
        clear hn7 HRL
        go_wp2_with fail
        refine HRC.out.mono ?_
        clear HRC
        rintro e w8 ⟨v8, rfl, hn8⟩
        obtain ⟨A8, c8, rfl, _, _⟩ := own_form hn8.own
        have HF8 := Lib.hid (HF7.out.trans hn8.fr)
        have HR8 := Lib.hid (Rd.of_own hn8.own)
        have HR78 := Lib.hid (HR7.out.nofr hn8.fr)
        have HNC := Lib.hid (HNS.out w8 HF8.out)
        clear hn8 HNS
        go_wp2_with fail
        refine HNC.out.mono ?_
        clear HNC
        rintro e w9 ⟨A9, c9, rfl, htx⟩
        have HF9 := Lib.hid (HF8.out.trans htx.fr)
        have HP9 := Lib.hid (HP6.out.nofr HF9.out)
        have HTX := Lib.hid htx.rd
        have s1 := strBs w9 A7 d.length c7 d rfl (HR78.out.nofr htx.fr)
        have s2 := strBs w9 A8 d.length c8 d rfl (HR8.out.nofr htx.fr)
        have e4 := bstr_toList d
        have hln : (m6.pfs.map (·.name)).length = m6.fs.length := by rw [List.length_map, List.length_map]
        obtain ⟨_, k1, _, _⟩ := HP9.out.rin.cell
        have hg9 := HP9.out.rin.bk.lt
        rw [HG6.out] at k1 hg9
        have hfs : m6.fs.length ≤ 32 := HFT6.out.len
        rw [hln]
        clear htx HP6 HF7 HF8 HR7 HR8 HR78 HBK6 b2 b7
        generalize d.length = dn at *
        go_wp2_with fail
        go_loopw [117] (fun s wx => ∃ j : Nat, j ≤ m6.fs.length ∧ s = .int .i64 j ∧ Hid (Pair w2 wx gd6 p6 m6 E) ∧ Hid (Rd wx A9 (sts (m6.pfs.map (·.name))))) (fun s _ => m6.fs.length - (intOf s).toNat)
        case atStart => exact ⟨0, Nat.zero_le _, rfl, HP9, HTX⟩
        case round =>
          clear HP9 HTX k1 hg9 s1 s2
          obtain ⟨j, hj, rfl, HPX, HTX⟩ := hrel
          obtain ⟨_, k1, _, _⟩ := HPX.out.rin.cell
          have hgx := HPX.out.rin.bk.lt
          rw [HG6.out] at k1 hgx
          by_cases hjl : j < m6.fs.length
          · obtain ⟨f, hf⟩ : ∃ f, m6.fs[j]? = some f := ⟨_, List.getElem?_eq_getElem hjl⟩
            obtain ⟨b6, hA6, _, q0, _, _, _⟩ := HPX.out.rin.file hf
            obtain ⟨nb, no, rfl, hnc⟩ := HTX.out.at_ (k := j) (v := st f.pf.name) (by
              show ((m6.pfs.map (·.name)).map st)[j]? = _
              rw [List.getElem?_map, List.getElem?_map, show m6.pfs[j]? = some f.pf by show (m6.fs.map RF.pf)[j]? = _; rw [List.getElem?_map, hf]; rfl]; rfl)
            unfold st at hnc
            rw [hA6] at k1
            have e5 := bstr_toList f.pf.name
            generalize f.pf.name = fn at *
            have i0' : (0 : Int) ≤ (j : Int) := by omega
            have i1' : (j : Int) < (m6.fs.length : Int) := by omega
            clear hf hA6
            go_wp2_with fail
            go_quiet (fail)
            have HPQ := Lib.hid (HPX.out.nofr ((Fr.refl NoBlk _).drewN nq))
            have HTQ := Lib.hid (HTX.out.nofr ((Fr.refl NoBlk _).drewN nq))
            go_wp2_with fail
            go_roundw
            case rel => exact ⟨j + 1, by omega, by go_num, HPQ, HTQ⟩
            case measure => simp [intOf]; omega
          · have HPZ : Hid (Pair w2 _ gd6 p6 m6 NoBlk) := Pair.none HPX.out
            go_wp2_with fail
            go_roundw
            case rel => exact ⟨k + 1, gd6, p6, m6, by omega, rfl, by first | rfl | rw [HG6.out], by go_num, HM6, HPZ⟩
            case measure => simp [intOf]; omega
      have hq2 : ¬ q = 0 ∧ ¬ q = 1 := ⟨hq0, hq1'⟩
      obtain ⟨d0, d1⟩ : decide ((q : Int) = 0) = false ∧ decide ((q : Int) = 1) = false := ⟨decide_eq_false (by omega), decide_eq_false (by omega)⟩
      go_upto_region 13 with fail
      rw [← HWB.out]
      clear HWB hq
      · skip
        have KV : ∀ W, Fr (fun k => k ≠ wr.heap.size) wB W → W.cell? ⟨wr.heap.size, 2, none⟩ = some (.string (bstr nm)) ∧ W.cell? ⟨wr.heap.size, 3, none⟩ = some (.slice va vb.length vc) ∧ True := fun W hW => have h := HBB.out.fr hW fun h => h rfl; ⟨h.cell 2, h.cell 3, trivial⟩
        have HFL : Hid (Fr NoBlk wB (wB.drew.alloc (.cells #[] 5))) := ((Fr.refl _ _).drew).alloc _
        have HNEW : Hid ((wB.drew.alloc (.cells #[] 5)).ownsRow wB.heap.size 5 1 (.slice (some ⟨wB.heap.size, 0, none⟩) 0 0) 0 []) := World.ownsRow_made wB.drew #[] 0 (Nat.le_refl _) (by decide) rfl
        have HSL : Hid (wB.heap.size ≤ (wB.drew.alloc (.cells #[] 5)).heap.size) := HFL.out.size
        have HVL : Hid (Rd (wB.drew.alloc (.cells #[] 5)) va (cb vb)) := HV.out.1.1.1.nofr (HPB.out.fr.trans HFL.out)
        have hvn := HV.out.1.1.2
        have hvb : vb.length ≤ 5000 := HSX5.out
        refine wp_region_held_drew (S := fun w' => w'.cell? ⟨wr.heap.size, 2, none⟩ = some (.string (bstr nm)) ∧ w'.cell? ⟨wr.heap.size, 3, none⟩ = some (.slice va vb.length vc) ∧ True) (by kernel_rfl) (by exact KV _ (Fr.refl _ _).drew) (fun hHeld => ?_)
        refine wpAnyH_take (i := 0) (oi := ⟨some 42, _, _, _, _, _⟩) (v := ?_) rfl (by kernel_rfl) (by kernel_rfl) (by kernel_rfl) (fun _ _ _ h => h) (Or.inl ⟨by rfl, ?_⟩) (by assumption) ?_
        rotate_left 1
        · (intro w hSw; (try dsimp only at hSw); obtain ⟨hSa, hSb, hSc⟩ := hSw; go_simp) <;> (with_reducible rfl)
        try simp only [Act.put, List.setIfInBounds_toArray, List.set_cons_zero, List.set_cons_succ]
        refine wpAnyH_take (i := 1) (oi := ⟨some 43, _, _, _, _, _⟩) (v := ?_) rfl (by kernel_rfl) (by kernel_rfl) (by kernel_rfl) (fun _ _ _ h => h) (Or.inl ⟨by rfl, ?_⟩) (by assumption) ?_
        rotate_left 1
        · (intro w hSw; (try dsimp only at hSw); obtain ⟨hSa, hSb, hSc⟩ := hSw; go_simp) <;> (with_reducible rfl)
        try simp only [Act.put, List.setIfInBounds_toArray, List.set_cons_zero, List.set_cons_succ]
        refine wpAnyH_take (i := 2) (oi := ⟨some 44, _, _, _, _, _⟩) (v := ?_) rfl (by kernel_rfl) (by kernel_rfl) (by kernel_rfl) (fun _ _ _ h => h) (Or.inl ⟨by rfl, ?_⟩) (by assumption) ?_
        rotate_left 1
        · (intro w hSw; (try dsimp only at hSw); obtain ⟨hSa, hSb, hSc⟩ := hSw; go_simp) <;> (with_reducible rfl)
        try simp only [Act.put, List.setIfInBounds_toArray, List.set_cons_zero, List.set_cons_succ]
        refine wpAnyH_take (i := 4) (oi := ⟨some 46, _, _, _, _, _⟩) (v := ?_) rfl (by kernel_rfl) (by kernel_rfl) (by kernel_rfl) (fun _ _ _ h => h) (Or.inl ⟨by rfl, ?_⟩) (by assumption) ?_
        rotate_left 1
        · (intro w hSw; (try dsimp only at hSw); obtain ⟨hSa, hSb, hSc⟩ := hSw; go_simp) <;> (with_reducible rfl)
        try simp only [Act.put, List.setIfInBounds_toArray, List.set_cons_zero, List.set_cons_succ]
        refine wpAnyH_take (i := 5) (oi := ⟨some 47, _, _, _, _, _⟩) (v := ?_) rfl (by kernel_rfl) (by kernel_rfl) (by kernel_rfl) (fun _ _ _ h => h) (Or.inl ⟨by rfl, ?_⟩) (by assumption) ?_
        rotate_left 1
        · (intro w hSw; (try dsimp only at hSw); obtain ⟨hSa, hSb, hSc⟩ := hSw; go_simp) <;> (with_reducible rfl)
        try simp only [Act.put, List.setIfInBounds_toArray, List.set_cons_zero, List.set_cons_succ]
        refine wpAnyH_take (i := 8) (oi := ⟨some 50, _, _, _, _, _⟩) (v := ?_) rfl (by kernel_rfl) (by kernel_rfl) (by kernel_rfl) (fun _ _ _ h => h) (Or.inl ⟨by rfl, ?_⟩) (by assumption) ?_
        rotate_left 1
        · (intro w hSw; (try dsimp only at hSw); obtain ⟨hSa, hSb, hSc⟩ := hSw; go_simp) <;> (with_reducible rfl)
        try simp only [Act.put, List.setIfInBounds_toArray, List.set_cons_zero, List.set_cons_succ]
        refine wpAnyH_take (i := 9) (oi := ⟨some 51, _, _, _, _, _⟩) (v := ?_) rfl (by kernel_rfl) (by kernel_rfl) (by kernel_rfl) (fun _ _ _ h => h) (Or.inl ⟨by rfl, ?_⟩) (by assumption) ?_
        rotate_left 1
        · (intro w hSw; (try dsimp only at hSw); obtain ⟨hSa, hSb, hSc⟩ := hSw; go_simp) <;> (with_reducible rfl)
        try simp only [Act.put, List.setIfInBounds_toArray, List.set_cons_zero, List.set_cons_succ]
        refine wpAnyH_take (i := 10) (oi := ⟨some 52, _, _, _, _, _⟩) (v := ?_) rfl (by kernel_rfl) (by kernel_rfl) (by kernel_rfl) (fun _ _ _ h => h) (Or.inl ⟨by rfl, ?_⟩) (by assumption) ?_
        rotate_left 1
        · (intro w hSw; (try dsimp only at hSw); obtain ⟨hSa, hSb, hSc⟩ := hSw; go_simp) <;> (with_reducible rfl)
        try simp only [Act.put, List.setIfInBounds_toArray, List.set_cons_zero, List.set_cons_succ]
        refine wpAnyH_take (i := 11) (oi := ⟨some 53, _, _, _, _, _⟩) (v := ?_) rfl (by kernel_rfl) (by kernel_rfl) (by kernel_rfl) (fun _ _ _ h => h) (Or.inl ⟨by rfl, ?_⟩) (by assumption) ?_
        rotate_left 1
        · (intro w hSw; (try dsimp only at hSw); obtain ⟨hSa, hSb, hSc⟩ := hSw; go_simp) <;> (with_reducible rfl)
        try simp only [Act.put, List.setIfInBounds_toArray, List.set_cons_zero, List.set_cons_succ]
        refine wpAnyH_take (i := 12) (oi := ⟨some 54, _, _, _, _, _⟩) (v := ?_) rfl (by kernel_rfl) (by kernel_rfl) (by kernel_rfl) (fun _ _ _ h => h) (Or.inl ⟨by rfl, ?_⟩) (by assumption) ?_
        rotate_left 1
        · (intro w hSw; (try dsimp only at hSw); obtain ⟨hSa, hSb, hSc⟩ := hSw; go_simp) <;> (with_reducible rfl)
        try simp only [Act.put, List.setIfInBounds_toArray, List.set_cons_zero, List.set_cons_succ]
        refine wpAnyH_ready (rs := [3]) (by kernel_rfl) (by simp) ?_
        refine AllReadyH.cons (o := ⟨some 45, _, _, _, _, _⟩) rfl (fun K hK => ?_) AllReadyH.nil
        go_simp
        refine hK.out _ _ ?_ (fun hHeld => ?_)
        · exact KV _ (HFL.out.mono fun _ _ h => h.elim)
        clear hK K
        try simp only [Act.put, List.setIfInBounds_toArray, List.set_cons_zero, List.set_cons_succ]
        refine wpAnyH_ready (rs := [6]) (by kernel_rfl) (by simp) ?_
        refine AllReadyH.cons (o := ⟨some 48, _, _, _, _, _⟩) rfl (fun K hK => ?_) AllReadyH.nil
        refine step_app rfl _ _ 22 rfl wB.heap.size 5 i0 (.int .u8 0) 1 Tryd.underlying22 hi hz0 hz1 hz2 rfl (.slice (some ⟨wB.heap.size, 0, none⟩) 0 0) 0 [] rfl HNEW.out va vc vb.length (cb vb) rfl (cb_length _) HVL.out (cb_one _) hvn (by unfold maxLen; omega) (by omega) HSL.out ?_
        intro v4 w4 ho4 hg4 _ _
        rw [Nat.zero_add, List.nil_append] at ho4
        obtain ⟨B, cB, rfl, hcB, hBn⟩ := own_form ho4
        have HF4 : Hid (Fr NoBlk wB w4) := HFL.out.grown hg4 (fun k hk hlt => by
          have hk' : some wB.heap.size = some k := hk
          injection hk' with hk'
          omega)
        have HO4 := Lib.hid ho4
        have HCB := Lib.hid (And.intro hcB hBn)
        have HP4 : Hid (Pair w2 w4 gd p m fun k => k = wr.heap.size ∨ ablk B k) := HPR.out.more (HFB.out.trans HF4.out) fun k hk => .inr (by
          rcases hk with rfl | hk
          · exact ⟨Nat.le_refl _, Nat.lt_of_lt_of_le HBB.out.lt HF4.out.size⟩
          · obtain ⟨h1, cs, h2⟩ := own_abl HO4.out hk
            exact ⟨Nat.le_trans HFB.out.size h1, h2.lt⟩)
        clear ho4 hg4 hcB hBn
        refine hK.out _ _ ?_ (fun hHeld => ?_)
        · exact KV _ (HF4.out.mono fun _ _ h => h.elim)
        clear hK K
        try simp only [Act.put, List.setIfInBounds_toArray, List.set_cons_zero, List.set_cons_succ]
        refine wpAnyH_ready (rs := [7]) (by kernel_rfl) (by simp) ?_
        refine AllReadyH.cons (o := ⟨some 49, _, _, _, _, _⟩) rfl (fun K hK => ?_) AllReadyH.nil
        go_simp
        go_at_call 20
        refine (save_any w2 w4 gd p _ HP4.out.ats HP4.out.lt HT.out nm (by unfold maxLen; omega) B cB vb ⟨Rd.of_own HO4.out, HCB.out.2⟩ HCB.out.1 (by omega) (fun _ k hk => .inr (.inr (.inr hk)))).mono ?_
        rintro e w5 ⟨rfl, ha5, hf5⟩
        have HP5 := Lib.hid (HP4.out.disk ha5 hf5)
        have HF5 : Hid (Fr (fun k => k ≠ wr.heap.size) wB w5) := (HF4.out.mono fun _ _ h => h.elim).trans (HP5.out.2.mono fun k _ h e => h (.inl e))
        have hrs := rsave_any w5 _ m HP5.out.1.rin HFT.out HP5.out.1.fr.size nm (by unfold maxLen; omega) va vc vb ⟨HV.out.1.1.1.nofr HP5.out.1.fr, hvn⟩ HV.out.1.2.1 (by omega) (fun hp k hk ho => by
          have h1 := HV.out.1.1.1.lt (by rw [cb_length]; exact hp) hk
          have h2 := (HP5.out.1.rin.own ho).1
          omega)
        rw [HMP.out, norm_save] at hrs
        have HRS := Lib.hid hrs
        clear ha5 hf5 hrs
        go_wp2_with fail
        refine hK.out _ _ ?_ (fun hHeld => ?_)
        · exact KV _ HF5.out
        clear hK K
        try simp only [Act.put, List.setIfInBounds_toArray, List.set_cons_zero, List.set_cons_succ]
        refine wpAnyH_ready (rs := [13]) (by kernel_rfl) (by simp) ?_
        refine AllReadyH.cons (o := ⟨some 55, _, _, _, _, _⟩) rfl (fun K hK => ?_) AllReadyH.nil
        go_simp
        go_at_call 21
        refine HRS.out.mono ?_
        rintro e w6 ⟨rfl, m6, hm6, hp6⟩
        have HR6 := Lib.hid (HP5.out.1.ref hp6)
        have HG6 : Hid (m6.g = m.g) := hp6.g
        have HF6 : Hid (Fr (fun k => k ≠ wr.heap.size) wB w6) := HF5.out.trans (HR6.out.2.mono fun k _ h e => h (.inl e))
        have HM60 := Lib.hid hm6
        clear hm6 hp6
        go_wp2_with fail
        refine hK.out _ _ ?_ (fun hHeld => ?_)
        · exact KV _ HF6.out
        clear hK K
        try simp only [Act.put, List.setIfInBounds_toArray, List.set_cons_zero, List.set_cons_succ]
        refine wpAnyH_take (i := 14) (oi := ⟨some 56, _, _, _, _, _⟩) (v := ?_) rfl (by kernel_rfl) (by kernel_rfl) (by kernel_rfl) (fun _ _ _ h => h) (Or.inl ⟨by rfl, ?_⟩) (by assumption) ?_
        rotate_left 1
        · (intro w hSw; (try dsimp only at hSw); obtain ⟨hSa, hSb, hSc⟩ := hSw; go_simp) <;> (with_reducible rfl)
        try simp only [Act.put, List.setIfInBounds_toArray, List.set_cons_zero, List.set_cons_succ]
        refine wpAnyH_done (by kernel_rfl) ?_ _
        obtain ⟨E, hE⟩ : ∃ E : Nat → Prop, E = fun k => k = wr.heap.size ∨ ablk B k := ⟨_, rfl⟩
        obtain ⟨gd6, hgd6⟩ : ∃ g, g = gd := ⟨_, rfl⟩
        obtain ⟨p6, hp6'⟩ : ∃ p6 : PD, p6 = (psave p nm vb).1 := ⟨_, rfl⟩
        have HM6 : Hid (m6.pd = norm p6) := by show _ = _; rw [hp6']; exact HM60.out
        have HP6 : Hid (Pair w2 w6 gd6 p6 m6 E) := by show Pair _ _ _ _ _ _; rw [hgd6, hp6', hE]; exact HR6.out.1
        have HBK6 := Lib.hid (HBB.out.fr HF6.out fun h => h rfl)
        rw [← hgd6]
        clear hE hgd6 hp6' HM60 HR6 HF6 HF5 HP5 HRS HP4 HO4 HCB HF4 HVL HNEW HFL HSL
        have b2 : w6.cell? ⟨wr.heap.size, 2, none⟩ = some (.string (bstr nm)) := HBK6.out.cell 2
        have HLD := Lib.hid (load_any w2 w6 gd6 p6 _ HP6.out.ats HT.out nm (by unfold maxLen; omega))
        have HFT6 : Hid (RFit m6) := HP6.out.fit HM6.out rfl rfl HP6.out.ats.leftB
        have HRL := Lib.hid fun W (hf : Fr NoBlk w6 W) => rload_any W _ m6 (HP6.out.rin.nofr hf) HFT6.out nm
        have HNS := Lib.hid fun W (hf : Fr NoBlk w6 W) => namesS (HP6.out.ats.nofr hf)
        have HLQ : Hid (pload m6.pd nm = pload p6 nm) := by show _ = _; rw [HM6.out]; rfl
        rw [HLQ.out, HG6.out] at HRL
        have hpf : m6.pfs = p6.files := congrArg PD.files HM6.out
        rw [← hpf] at HNS
        have HLE := Lib.hid (pload_len p6 nm)
        clear HLQ
        generalize pload p6 nm = u at *
        obtain ⟨d, z⟩ := u
        dsimp only at HLE
        go_wp2_with fail
        refine HLD.out.mono ?_
        clear HLD
        rintro e w7 ⟨v7, rfl, hn7⟩
        obtain ⟨A7, c7, rfl, _, _⟩ := own_form hn7.own
        have HF7 := Lib.hid hn7.fr
        have HR7 := Lib.hid (Rd.of_own hn7.own)
        have b7 : w7.cell? ⟨wr.heap.size, 2, none⟩ = some (.string (bstr nm)) := (HBK6.out.fr hn7.fr fun h => h).cell 2
        have HRC := Lib.hid (HRL.out w7 hn7.fr)
        clear hn7 HRL
        go_wp2_with fail
        refine HRC.out.mono ?_
        clear HRC
        rintro e w8 ⟨v8, rfl, hn8⟩
        obtain ⟨A8, c8, rfl, _, _⟩ := own_form hn8.own
        have HF8 := Lib.hid (HF7.out.trans hn8.fr)
        have HR8 := Lib.hid (Rd.of_own hn8.own)
        have HR78 := Lib.hid (HR7.out.nofr hn8.fr)
        have HNC := Lib.hid (HNS.out w8 HF8.out)
        clear hn8 HNS
        go_wp2_with fail
        refine HNC.out.mono ?_
        clear HNC
        rintro e w9 ⟨A9, c9, rfl, htx⟩
        have HF9 := Lib.hid (HF8.out.trans htx.fr)
        have HP9 := Lib.hid (HP6.out.nofr HF9.out)
        have HTX := Lib.hid htx.rd
        have s1 := strBs w9 A7 d.length c7 d rfl (HR78.out.nofr htx.fr)
        have s2 := strBs w9 A8 d.length c8 d rfl (HR8.out.nofr htx.fr)
        have e4 := bstr_toList d
        have hln : (m6.pfs.map (·.name)).length = m6.fs.length := by rw [List.length_map, List.length_map]
        obtain ⟨_, k1, _, _⟩ := HP9.out.rin.cell
        have hg9 := HP9.out.rin.bk.lt
        rw [HG6.out] at k1 hg9
        have hfs : m6.fs.length ≤ 32 := HFT6.out.len
        rw [hln]
        clear htx HP6 HF7 HF8 HR7 HR8 HR78 HBK6 b2 b7
        generalize d.length = dn at *
        go_wp2_with fail
        go_loopw [117] (fun s wx => ∃ j : Nat, j ≤ m6.fs.length ∧ s = .int .i64 j ∧ Hid (Pair w2 wx gd6 p6 m6 E) ∧ Hid (Rd wx A9 (sts (m6.pfs.map (·.name))))) (fun s _ => m6.fs.length - (intOf s).toNat)
        case atStart => exact ⟨0, Nat.zero_le _, rfl, HP9, HTX⟩
        case round =>
          clear HP9 HTX k1 hg9 s1 s2
          obtain ⟨j, hj, rfl, HPX, HTX⟩ := hrel
          obtain ⟨_, k1, _, _⟩ := HPX.out.rin.cell
          have hgx := HPX.out.rin.bk.lt
          rw [HG6.out] at k1 hgx
          by_cases hjl : j < m6.fs.length
          · obtain ⟨f, hf⟩ : ∃ f, m6.fs[j]? = some f := ⟨_, List.getElem?_eq_getElem hjl⟩
            obtain ⟨b6, hA6, _, q0, _, _, _⟩ := HPX.out.rin.file hf
            obtain ⟨nb, no, rfl, hnc⟩ := HTX.out.at_ (k := j) (v := st f.pf.name) (by
              show ((m6.pfs.map (·.name)).map st)[j]? = _
              rw [List.getElem?_map, List.getElem?_map, show m6.pfs[j]? = some f.pf by show (m6.fs.map RF.pf)[j]? = _; rw [List.getElem?_map, hf]; rfl]; rfl)
            unfold st at hnc
            rw [hA6] at k1
            have e5 := bstr_toList f.pf.name
            generalize f.pf.name = fn at *
            have i0' : (0 : Int) ≤ (j : Int) := by omega
            have i1' : (j : Int) < (m6.fs.length : Int) := by omega
            clear hf hA6
            go_wp2_with fail
            go_quiet (fail)
            have HPQ := Lib.hid (HPX.out.nofr ((Fr.refl NoBlk _).drewN nq))
            have HTQ := Lib.hid (HTX.out.nofr ((Fr.refl NoBlk _).drewN nq))
            go_wp2_with fail
            go_roundw
            case rel => exact ⟨j + 1, by omega, by go_num, HPQ, HTQ⟩
            case measure => simp [intOf]; omega
          · have HPZ : Hid (Pair w2 _ gd6 p6 m6 NoBlk) := Pair.none HPX.out
            go_wp2_with fail
            go_roundw
            case rel => exact ⟨k + 1, gd6, p6, m6, by omega, rfl, by first | rfl | rw [HG6.out], by go_num, HM6, HPZ⟩
            case measure => simp [intOf]; omega
    · go_wp2_with fail
      go_ret
      exact ⟨rfl, HFR.out⟩

theorem paramsOk : ∀ t ∈ Tryd.f4.params.toList, Tryd.prog.readableRec t = true ∧ t < Tryd.prog.types.size := fun t ht => by
  have h := List.all_eq_true.1 (show (Tryd.f4.params.toList.all fun t => Tryd.prog.readableRec t && decide (t < Tryd.prog.types.size)) = true by kernel_rfl) t ht
  simpa using h
theorem paramsPlain : ∀ (j : Nat) t, Tryd.f4.params[j]? = some t → Tryd.prog.wantsStandIn t = false := fun j t ht => by
  have h := List.all_eq_true.1 (show (Tryd.f4.params.toList.all fun t => !Tryd.prog.wantsStandIn t) = true by kernel_rfl) t (by simpa using Array.mem_of_getElem? ht)
  simpa using h

set_option maxRecDepth 100000 in
theorem contract (H : Type) (enc : TypeId × Value → H) (W : World) (args : Array Value) (ds gs : List (DataW H)) (before : List MemPlace)
    (base : Nat) (hval : ∀ (j : Nat) t v, Tryd.f4.params[j]? = some t → args[j]? = some v → Value.okWide Tryd.prog W .any base t v)
    (hW : DataW.Whole enc Tryd.prog Tryd.f4.params.toList Rows.snapPlaysSpec.vars false W args.toList ds gs before) (hL : laidMetH Tryd.prog Rows.snapPlaysRow.laid W) :
    Calls Tryd.prog 4 args W fun e W' => ∃ v, e = .returned v ∧ Rows.snapPlaysSpec.post enc Tryd.prog Tryd.f4 false true false false W args v W' := by
  have hW' := hW
  obtain ⟨p, q, hA, hV, rfl, _, _⟩ := hW
  rw [Tryd.params4] at hA hval
  obtain ⟨v0, vs0, d0, ds0, p0, q0, hargs, rfl, rfl, h0, r0⟩ := trodAll_cons hA
  obtain ⟨v1, vs1, d1, ds1, p1, q1, rfl, rfl, rfl, h1, r1⟩ := trodAll_cons r0
  obtain ⟨rfl, rfl, rfl⟩ := trodAll_nil r1
  obtain rfl : args = #[v0, v1] := by cases args; simp_all
  obtain ⟨rfl, rfl⟩ := trodVars_none hV
  obtain ⟨n, rfl, rfl, rfl, _⟩ := open_int Tryd.underlying3 (hval 0 _ v0 rfl rfl) h0
  obtain ⟨A, c, xs, rfl, hr, hx, hxc, hc⟩ := open_ops (hval 1 _ v1 rfl rfl) h1
  have walk := walk W (table hL) n A c xs hr hx (Nat.le_trans hxc hc)
  refine walk.mono fun e W' ⟨he, hf⟩ => ?_
  subst he
  exact ⟨_, rfl, law_post laidOut paramsOk rfl rfl Tryd.underlying4 hW' rfl rfl rfl hf⟩

theorem laid_met (os : Os) : laidMet Tryd.prog Rows.snapPlaysRow.laid ((laidWorld os).forCall (fun _ _ => 0) ⟨#[], #[.int .i64 0, .slice none 0 0], []⟩).memory :=
  laidMet_of_run' 20 (by kernel_rfl) (by kernel_rfl)
theorem reads (os : Os) {H : Type} (enc : TypeId × Value → H) : ∃ places, DataW.whole enc Tryd.prog ((laidWorld os).forCall (fun _ _ => 0) ⟨#[], #[.int .i64 0, .slice none 0 0], []⟩).memory Tryd.f4.params.toList Rows.snapPlaysSpec.vars false (#[.int .i64 0, .slice none 0 0] : Array Value).toList 8 = some ([.lit (.int .i64 0), .nil], [], places) :=
  ⟨[], by kernel_rfl⟩

set_option maxRecDepth 100000 in
theorem lifted (os : Os) (started : os.Started) (H : Type) (enc : TypeId × Value → H) (F : Stop.Interp) :
    ReturnsInHanded {} Tryd.checked os 4 .any ((OpenSpec.ofChange Rows.snapPlaysSpec).preRow enc Tryd.prog Tryd.f4 Rows.snapPlaysRow.domain false Rows.snapPlaysRow.laid) (((OpenSpec.ofChange Rows.snapPlaysSpec).at F).post enc Tryd.prog Tryd.f4 false true false false) := by
  obtain ⟨places, hx⟩ := reads os enc
  refine returnsInHanded_of_row (C := Tryd.checked) (s := OpenSpec.ofChange Rows.snapPlaysSpec) own started (by kernel_rfl) Tryd.func4
    (witness_row_at (enc := enc) (C := Tryd.checked) false (laidWorld os) #[.int .i64 0, .slice none 0 0] rfl (by kernel_rfl) (by kernel_rfl) (by kernel_rfl)
      (OpenSpec.preRow_of_cond 8 hx (by kernel_rfl) (fun k hk => by cases hk) (by kernel_rfl) (laid_met os))) ?_
  intro W base args ds gs before hval hW _ _ _ hL _ _
  exact contract H enc W args ds gs before base hval hW hL

theorem said : Rows.SnapPlaysSaid :=
  OpenClaim.holds_of_cond 4 Tryd.f4 rfl rfl rfl rfl rfl rfl rfl ⟨rfl, rfl, rfl, rfl, rfl⟩ rfl rfl rfl rfl rfl (by kernel_rfl) Tryd.func4 (by kernel_rfl)
    (of_decide_eq_true (by kernel_rfl)) (by unfold Func.isWrapper; first | (rw [if_pos (by decide +kernel)]; kernel_rfl) | (rw [if_neg (by decide +kernel)]; exact ⟨rfl, rfl⟩))
    (fun os started H enc _ F => by rw [OpenClaim.pre_eq_preRow]; exact lifted os started H enc F)

theorem plain (f : FuncId) (fn : Func) (hf : Tryd.pinned.checked.prog.funcNamed "argosy/argosylaw08.SnapPlays" = some f) (hfn : Tryd.pinned.checked.prog.funcs[f]? = some fn) :
    false = Tryd.pinned.checked.prog.looks [] ∧ ∀ (j : Nat) t, fn.params[j]? = some t → Tryd.pinned.checked.prog.wantsStandIn t = false := by
  obtain rfl : f = 4 := Option.some.inj ((show Tryd.prog.funcNamed "argosy/argosylaw08.SnapPlays" = some 4 by kernel_rfl).symm.trans hf) |>.symm
  obtain rfl : fn = Tryd.f4 := (Option.some.inj (Tryd.func4.symm.trans hfn)).symm
  exact ⟨by kernel_rfl, paramsPlain⟩

theorem card : Rows.SnapPlaysCardSaid :=
  Claim7.holds_tied_plain_at .later [] _ _ _ _ said (fun _ h => by cases h) (by kernel_rfl) (fun _ h => by cases h) snapPlays_row_tie rfl ⟨rfl, rfl⟩ (by kernel_rfl) rfl plain (by kernel_rfl)
end Go.Proofs.YtokonhcphhpogaaDoor.snapPlays
