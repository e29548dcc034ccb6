/- The document's list of keys and values: Delete. Conditions: at most 100000 keys. -/
import Derived.Test.YtcpgonioobgpoaaDt2
import Derived.Deep.RegionHeld3
namespace Go.Proofs.Ytcpgonioobgpoaa
open Go.RowKit
set_option maxRecDepth 100000 in
set_option maxHeartbeats 2000000 in
theorem rdel_any (w : World) (base g : Nat) (A : Option Addr) (c : Nat) (xs : List ItS) (h : RT w base g A c xs) (hu : UpI Op.bytesLess xs) (hn : xs.length ≤ 100000) (hb : base ≤ w.heap.size) (key : Bs) :
    Calls Try.prog 13 #[.pointer (some ⟨g, 0, none⟩), .string (bstr key)] w (TreeRPut w base g A xs (delL Op.bytesLess key xs) key) := by
  obtain ⟨i0, hi, hz0, hz1, hz2⟩ := info_partsR ritemInfo
  have HP := Lib.hid (rplace_any w base g A c xs h hu hn key)
  have HH := Lib.hid h
  have HU := Lib.hid hu
  have HB := Lib.hid hb
  obtain ⟨n, hnn⟩ : ∃ n, n = xs.length := ⟨_, rfl⟩
  have HN := Lib.hid hnn
  have HN5 : Hid (n ≤ 100000) := by show n ≤ _; rw [hnn]; exact hn
  clear h hu hn hnn hb
  go_enter Try.func13, Try.ntmps13
  go_wp2_with fail
  refine HP.out.mono ?_
  clear HP
  rintro e w1 ⟨i, fd, rfl, hi', hfd, hf⟩
  have HF := Lib.hid hf
  have HI := Lib.hid hi'
  have H1 := Lib.hid (HH.out.nofr hf)
  cases fd with
  | false =>
    have HNO : Hid (¬ ∃ v, xs[i]? = some (key, v)) := fun h => by have := hfd.2 h; cases this
    clear hi' hfd hf
    go_wp2_with fail
    go_ret2
    refine ⟨0, false, rfl, HI.out.lk_no linS 0 HU.out HNO.out, A, c, ?_, HF.out.mono fun _ _ e => e.elim, fun b hb => .inl hb⟩
    rw [delL_no linS fun u => HI.out.no linS HU.out HNO.out u]
    exact H1.out
  | true =>
    obtain ⟨u, hx⟩ := hfd.1 rfl
    have hin : i < n := by rw [HN.out]; exact (List.getElem?_eq_some_iff.1 hx).1
    have hiN : (i : Int) < (n : Int) := by omega
    have hcap : n ≤ c := by rw [HN.out]; exact H1.out.cap
    have hic : i ≤ c := by omega
    have hwr : IntKind.i64.wrap ((i : Int) + 1) = (i : Int) + 1 := by have := HN5.out; exact IntWalk.i64_in _ (by omega)
    have hS0 : (0 : Int) ≤ (i : Int) + 1 := by omega
    have hS1 : (i : Int) + 1 ≤ (n : Int) := by omega
    have hS2 : (i : Int) ≤ (c : Int) := by omega
    have hS3 : (i : Int) ≤ (i : Int) + 1 := by omega
    have TC : Hid (∀ W, Fr NoBlk w1 W → W.cell? ⟨g, 0, none⟩ = some (.slice A n c)) := fun W hW => by rw [HN.out]; exact (H1.out.nofr hW).bk.cell 0
    obtain ⟨b, o, hA, d0, d1⟩ := H1.out.row.rd.itS hx
    have c1 : w1.cell? ⟨g, 0, none⟩ = some (.slice (some ⟨b, o, none⟩) n c) := by rw [← hA]; exact TC.out _ (Fr.refl _ _)
    dsimp only at d1
    have HX := Lib.hid hx
    have HAC := Lib.hid H1.out.none_
    have HRD := Lib.hid H1.out.row.rd
    clear hi' hfd hf hx d0 hA
    obtain ⟨q, hq⟩ : ∃ q, q = w1.heap.size := ⟨_, rfl⟩
    obtain ⟨w2, hw2⟩ : ∃ w2, w2 = (w1.alloc (.cells #[] 43)).drew := ⟨_, rfl⟩
    have HF2 : Hid (Fr NoBlk w1 w2) := by show Fr _ _ _; rw [hw2]; exact ((Fr.refl _ _).alloc _).drew
    have HO2 : Hid (w2.ownsRow w1.heap.size 43 2 (.slice (some ⟨q, 0, none⟩) 0 0) 0 []) := own_litW 2 (by rw [hw2, hq]; exact (Bk.new w1 _ _).fr (Fr.refl NoBlk _).drew (fun e => e)) (by rw [hq]; exact Nat.le_refl _)
    have HR2 : Hid (Rd w2 A (itsS (xs.take i))) := by show Rd _ _ _; rw [itsS_take]; exact (HRD.out.nofr HF2.out).take _
    have HLT : Hid ((itsS (xs.take i)).length = i * 2) := by show _ = _; rw [itsS_len, List.length_take, ← HN.out, Nat.min_eq_left (by omega)]
    have HLD : Hid ((itsS (xs.drop (i + 1))).length = (n - (i + 1)) * 2) := by show _ = _; rw [itsS_len, List.length_drop, ← HN.out]
    have TAIL : Hid (∀ A6 c6 w6, Fr NoBlk w1 w6 → w6.ownsRow w1.heap.size 43 2 (.slice A6 (i + (n - (i + 1))) c6) (i + (n - (i + 1))) (itsS (xs.take i) ++ itsS (xs.drop (i + 1))) →
        TreeRPut w base g A xs (delL Op.bytesLess key xs) key (.returned (.tuple #[.int .i64 u, .bool true])) (w6.setCell ⟨g, 0, none⟩ (.slice A6 (i + (n - (i + 1))) c6))) := fun A6 c6 w6 HF6 HO6 => by
      refine ⟨u, true, rfl, IsAt.lk_yes 0 HX.out, RPut.of HH.out HF.out HF6 ?_ ?_ HO6 HB.out⟩
      · rw [HI.out.del linS HU.out HX.out]
        simp only [List.length_append, List.length_take, List.length_drop]
        have := HN.out
        omega
      · rw [HI.out.del linS HU.out HX.out, itsS_append]
    have HW2 := Lib.hid hw2
    have HQ := Lib.hid hq
    clear hw2 hq
    by_cases hci : c = i + 1
    · have HRX : Hid (Rd w1 A (itsS (xs.drop (i + 1)))) := fun h => by rw [HLD.out] at h; omega
      go_wp2_with fail
      clear c1 d1
      refine wp_region_held_drew (S := fun _ => True) (by kernel_rfl) trivial (fun hHeld => ?_)
      refine wpAnyH_take (i := 0) (oi := ⟨some 25, _, _, _, _, _⟩) (v := ?_) rfl (by kernel_rfl) (by kernel_rfl) (by kernel_rfl) (fun _ _ _ h => h) (Or.inl ⟨by rfl, ?_⟩) (by assumption) ?_
      rotate_left 1
      · (intro w hSw; (try dsimp only at hSw); go_simp) <;> (with_reducible rfl)
      try simp only [Act.put, List.setIfInBounds_toArray, List.set_cons_zero, List.set_cons_succ]
      refine wpAnyH_take (i := 2) (oi := ⟨some 27, _, _, _, _, _⟩) (v := ?_) rfl (by kernel_rfl) (by kernel_rfl) (by kernel_rfl) (fun _ _ _ h => h) (Or.inl ⟨by rfl, ?_⟩) (by assumption) ?_
      rotate_left 1
      · (intro w hSw; (try dsimp only at hSw); go_simp) <;> (with_reducible rfl)
      try simp only [Act.put, List.setIfInBounds_toArray, List.set_cons_zero, List.set_cons_succ]
      refine wpAnyH_take (i := 3) (oi := ⟨some 28, _, _, _, _, _⟩) (v := ?_) rfl (by kernel_rfl) (by kernel_rfl) (by kernel_rfl) (fun _ _ _ h => h) (Or.inl ⟨by rfl, ?_⟩) (by assumption) ?_
      rotate_left 1
      · (intro w hSw; (try dsimp only at hSw); go_simp) <;> (with_reducible rfl)
      try simp only [Act.put, List.setIfInBounds_toArray, List.set_cons_zero, List.set_cons_succ]
      refine wpAnyH_take (i := 4) (oi := ⟨some 29, _, _, _, _, _⟩) (v := ?_) rfl (by kernel_rfl) (by kernel_rfl) (by kernel_rfl) (fun _ _ _ h => h) (Or.inl ⟨by rfl, ?_⟩) (by assumption) ?_
      rotate_left 1
      · (intro w hSw; (try dsimp only at hSw); go_simp) <;> (with_reducible rfl)
      try simp only [Act.put, List.setIfInBounds_toArray, List.set_cons_zero, List.set_cons_succ]
      refine wpAnyH_take (i := 6) (oi := ⟨some 31, _, _, _, _, _⟩) (v := ?_) rfl (by kernel_rfl) (by kernel_rfl) (by kernel_rfl) (fun _ _ _ h => h) (Or.inl ⟨by rfl, ?_⟩) (by assumption) ?_
      rotate_left 1
      · (intro w hSw; (try dsimp only at hSw); go_simp) <;> (with_reducible rfl)
      try simp only [Act.put, List.setIfInBounds_toArray, List.set_cons_zero, List.set_cons_succ]
      refine wpAnyH_take (i := 9) (oi := ⟨some 34, _, _, _, _, _⟩) (v := ?_) rfl (by kernel_rfl) (by kernel_rfl) (by kernel_rfl) (fun _ _ _ h => h) (Or.inl ⟨by rfl, ?_⟩) (by assumption) ?_
      rotate_left 1
      · (intro w hSw; (try dsimp only at hSw); go_simp) <;> (with_reducible rfl)
      try simp only [Act.put, List.setIfInBounds_toArray, List.set_cons_zero, List.set_cons_succ]
      refine wpAnyH_take (i := 10) (oi := ⟨some 35, _, _, _, _, _⟩) (v := ?_) rfl (by kernel_rfl) (by kernel_rfl) (by kernel_rfl) (fun _ _ _ h => h) (Or.inl ⟨by rfl, ?_⟩) (by assumption) ?_
      rotate_left 1
      · (intro w hSw; (try dsimp only at hSw); go_simp) <;> (with_reducible rfl)
      try simp only [Act.put, List.setIfInBounds_toArray, List.set_cons_zero, List.set_cons_succ]
      refine wpAnyH_take (i := 11) (oi := ⟨some 36, _, _, _, _, _⟩) (v := ?_) rfl (by kernel_rfl) (by kernel_rfl) (by kernel_rfl) (fun _ _ _ h => h) (Or.inl ⟨by rfl, ?_⟩) (by assumption) ?_
      rotate_left 1
      · (intro w hSw; (try dsimp only at hSw); go_simp) <;> (with_reducible rfl)
      try simp only [Act.put, List.setIfInBounds_toArray, List.set_cons_zero, List.set_cons_succ]
      refine wpAnyH_take (i := 13) (oi := ⟨some 38, _, _, _, _, _⟩) (v := ?_) rfl (by kernel_rfl) (by kernel_rfl) (by kernel_rfl) (fun _ _ _ h => h) (Or.inl ⟨by rfl, ?_⟩) (by assumption) ?_
      rotate_left 1
      · (intro w hSw; (try dsimp only at hSw); go_simp) <;> (with_reducible rfl)
      try simp only [Act.put, List.setIfInBounds_toArray, List.set_cons_zero, List.set_cons_succ]
      refine wpAnyH_take (i := 14) (oi := ⟨some 39, _, _, _, _, _⟩) (v := ?_) rfl (by kernel_rfl) (by kernel_rfl) (by kernel_rfl) (fun _ _ _ h => h) (Or.inl ⟨by rfl, ?_⟩) (by assumption) ?_
      rotate_left 1
      · (intro w hSw; (try dsimp only at hSw); go_simp) <;> (with_reducible rfl)
      try simp only [Act.put, List.setIfInBounds_toArray, List.set_cons_zero, List.set_cons_succ]
      refine wpAnyH_ready (rs := [1, 5, 12]) (by kernel_rfl) (by simp) ?_
      refine AllReadyH.cons (o := ⟨some 26, _, _, _, _, _⟩) rfl (fun K hK => ?_) (AllReadyH.cons (o := ⟨some 30, _, _, _, _, _⟩) rfl (fun K hK => ?_) (AllReadyH.cons (o := ⟨some 37, _, _, _, _, _⟩) rfl (fun K hK => ?_) AllReadyH.nil))
      · go_simp
        clear hHeld
        have hq := HQ.out
        have hw2 := HW2.out
        rw [← hw2, ← hq]
        clear hw2 hq
        refine hK.out _ _ trivial (fun hHeld => ?_)
        clear hK K
        try simp only [Act.put, List.setIfInBounds_toArray, List.set_cons_zero, List.set_cons_succ]
        refine wpAnyH_ready (rs := [5, 12]) (by kernel_rfl) (by simp) ?_
        refine AllReadyH.cons (o := ⟨some 30, _, _, _, _, _⟩) rfl (fun K hK => ?_) (AllReadyH.cons (o := ⟨some 37, _, _, _, _, _⟩) rfl (fun K hK => ?_) AllReadyH.nil)
        · have cX := TC.out _ HF2.out
          have cY := TC.out _ (Fr.refl _ w1)
          go_simp
          clear hHeld cX cY
          refine hK.out _ _ trivial (fun hHeld => ?_)
          clear hK K
          try simp only [Act.put, List.setIfInBounds_toArray, List.set_cons_zero, List.set_cons_succ]
          refine wpAnyH_take (i := 7) (oi := ⟨some 32, _, _, _, _, _⟩) (v := ?_) rfl (by kernel_rfl) (by kernel_rfl) (by kernel_rfl) (fun _ _ _ h => h) (Or.inl ⟨by rfl, ?_⟩) (by assumption) ?_
          rotate_left 1
          · (intro w hSw; (try dsimp only at hSw); go_simp) <;> (with_reducible rfl)
          try simp only [Act.put, List.setIfInBounds_toArray, List.set_cons_zero, List.set_cons_succ]
          refine wpAnyH_ready (rs := [8, 12]) (by kernel_rfl) (by simp) ?_
          refine AllReadyH.cons (o := ⟨some 33, _, _, _, _, _⟩) rfl (fun K hK => ?_) (AllReadyH.cons (o := ⟨some 37, _, _, _, _, _⟩) rfl (fun K hK => ?_) AllReadyH.nil)
          · refine step_appW rfl _ _ 28 rfl w1.heap.size 43 i0 _ 2 24 Try.underlying28 hi hz0 hz1 hz2 rfl (by decide) (.slice (some ⟨q, 0, none⟩) 0 0) 0 [] rfl HO2.out A _ i (itsS (xs.take i)) rfl HLT.out HR2.out (itsS_one _) (fun e => by have := HAC.out e; omega) (by unfold maxLen; have := HN5.out; omega) (by have := HN5.out; omega) HF2.out.size ?_
            intro v3 w3 ho3 hg3 _
            try rw [List.nil_append, Nat.zero_add] at ho3
            obtain ⟨A3, c3, rfl, _, _⟩ := own_form ho3
            have HF3 : Hid (Fr NoBlk w1 w3) := grown_no HF2.out HO2.out hg3
            have HO3 := Lib.hid ho3
            have HRX3 : Hid (Rd w3 A (itsS (xs.drop (i + 1)))) := HRX.out.nofr HF3.out
            clear ho3 hg3 hHeld
            refine hK.out _ _ trivial (fun hHeld => ?_)
            clear hK K
            try simp only [Act.put, List.setIfInBounds_toArray, List.set_cons_zero, List.set_cons_succ]
            refine wpAnyH_ready (rs := [12]) (by kernel_rfl) (by simp) ?_
            refine AllReadyH.cons (o := ⟨some 37, _, _, _, _, _⟩) rfl (fun K hK => ?_) AllReadyH.nil
            have cX := TC.out _ HF3.out
            have cY := TC.out _ (Fr.refl _ w1)
            go_simp
            clear hHeld cX cY
            refine hK.out _ _ trivial (fun hHeld => ?_)
            clear hK K
            try simp only [Act.put, List.setIfInBounds_toArray, List.set_cons_zero, List.set_cons_succ]
            refine wpAnyH_take (i := 15) (oi := ⟨some 40, _, _, _, _, _⟩) (v := ?_) rfl (by kernel_rfl) (by kernel_rfl) (by kernel_rfl) (fun _ _ _ h => h) (Or.inl ⟨by rfl, ?_⟩) (by assumption) ?_
            rotate_left 1
            · (intro w hSw; (try dsimp only at hSw); go_simp) <;> (with_reducible rfl)
            try simp only [Act.put, List.setIfInBounds_toArray, List.set_cons_zero, List.set_cons_succ]
            refine wpAnyH_ready (rs := [16]) (by kernel_rfl) (by simp) ?_
            refine AllReadyH.cons (o := ⟨some 41, _, _, _, _, _⟩) rfl (fun K hK => ?_) AllReadyH.nil
            refine step_appW rfl _ _ 28 rfl w1.heap.size 43 i0 _ 2 24 Try.underlying28 hi hz0 hz1 hz2 rfl (by decide) (.slice A3 i c3) i (itsS (xs.take i)) rfl HO3.out A 0 (n - (i + 1)) (itsS (xs.drop (i + 1))) rfl HLD.out HRX3.out (itsS_one _) (fun _ => rfl) (by unfold maxLen; have := HN5.out; omega) (by have := HN5.out; omega) HF3.out.size ?_
            intro v6 w6 ho6 hg6 _
            obtain ⟨A6, c6, rfl, _, _⟩ := own_form ho6
            have HF6 : Hid (Fr NoBlk w1 w6) := grown_no HF3.out HO3.out hg6
            have HO6 := Lib.hid ho6
            have f6 := (H1.out.nofr HF6.out).bk.free 0
            clear ho6 hg6 hHeld
            refine hK.out _ _ trivial (fun hHeld => ?_)
            clear hK K
            try simp only [Act.put, List.setIfInBounds_toArray, List.set_cons_zero, List.set_cons_succ]
            refine wpAnyH_take (i := 17) (oi := ⟨some 42, _, _, _, _, _⟩) (v := ?_) rfl (by kernel_rfl) (by kernel_rfl) (by kernel_rfl) (fun _ _ _ h => h) (Or.inl ⟨by rfl, ?_⟩) (by assumption) ?_
            rotate_left 1
            · (intro w hSw; (try dsimp only at hSw); go_simp) <;> (with_reducible rfl)
            try simp only [Act.put, List.setIfInBounds_toArray, List.set_cons_zero, List.set_cons_succ]
            refine wpAnyH_take (i := 18) (oi := ⟨some 43, _, _, _, _, _⟩) (v := ?_) rfl (by kernel_rfl) (by kernel_rfl) (by kernel_rfl) (fun _ _ _ h => h) (Or.inl ⟨by rfl, ?_⟩) (by assumption) ?_
            rotate_left 1
            · (intro w hSw; (try dsimp only at hSw); go_simp) <;> (with_reducible rfl)
            try simp only [Act.put, List.setIfInBounds_toArray, List.set_cons_zero, List.set_cons_succ]
            refine wpAnyH_ready (rs := [19]) (by kernel_rfl) (by simp) ?_
            refine AllReadyH.cons (o := ⟨none, _, _, _, _, _⟩) rfl (fun K hK => ?_) AllReadyH.nil
            have cX := TC.out _ HF6.out
            go_simp
            clear hHeld cX
            refine hK.out _ _ trivial (fun hHeld => ?_)
            clear hK K
            try simp only [Act.put, List.setIfInBounds_toArray, List.set_cons_zero, List.set_cons_succ]
            refine wpAnyH_done (by kernel_rfl) ?_ _
            go_wp2_with fail
            go_ret2
            exact TAIL.out _ _ _ HF6.out HO6.out
          · have cX := TC.out _ HF2.out
            have cY := TC.out _ (Fr.refl _ w1)
            go_simp
            clear hHeld cX cY
            refine hK.out _ _ trivial (fun hHeld => ?_)
            clear hK K
            try simp only [Act.put, List.setIfInBounds_toArray, List.set_cons_zero, List.set_cons_succ]
            refine wpAnyH_take (i := 15) (oi := ⟨some 40, _, _, _, _, _⟩) (v := ?_) rfl (by kernel_rfl) (by kernel_rfl) (by kernel_rfl) (fun _ _ _ h => h) (Or.inl ⟨by rfl, ?_⟩) (by assumption) ?_
            rotate_left 1
            · (intro w hSw; (try dsimp only at hSw); go_simp) <;> (with_reducible rfl)
            try simp only [Act.put, List.setIfInBounds_toArray, List.set_cons_zero, List.set_cons_succ]
            refine wpAnyH_ready (rs := [8]) (by kernel_rfl) (by simp) ?_
            refine AllReadyH.cons (o := ⟨some 33, _, _, _, _, _⟩) rfl (fun K hK => ?_) AllReadyH.nil
            refine step_appW rfl _ _ 28 rfl w1.heap.size 43 i0 _ 2 24 Try.underlying28 hi hz0 hz1 hz2 rfl (by decide) (.slice (some ⟨q, 0, none⟩) 0 0) 0 [] rfl HO2.out A _ i (itsS (xs.take i)) rfl HLT.out HR2.out (itsS_one _) (fun e => by have := HAC.out e; omega) (by unfold maxLen; have := HN5.out; omega) (by have := HN5.out; omega) HF2.out.size ?_
            intro v3 w3 ho3 hg3 _
            try rw [List.nil_append, Nat.zero_add] at ho3
            obtain ⟨A3, c3, rfl, _, _⟩ := own_form ho3
            have HF3 : Hid (Fr NoBlk w1 w3) := grown_no HF2.out HO2.out hg3
            have HO3 := Lib.hid ho3
            have HRX3 : Hid (Rd w3 A (itsS (xs.drop (i + 1)))) := HRX.out.nofr HF3.out
            clear ho3 hg3 hHeld
            refine hK.out _ _ trivial (fun hHeld => ?_)
            clear hK K
            try simp only [Act.put, List.setIfInBounds_toArray, List.set_cons_zero, List.set_cons_succ]
            refine wpAnyH_ready (rs := [16]) (by kernel_rfl) (by simp) ?_
            refine AllReadyH.cons (o := ⟨some 41, _, _, _, _, _⟩) rfl (fun K hK => ?_) AllReadyH.nil
            refine step_appW rfl _ _ 28 rfl w1.heap.size 43 i0 _ 2 24 Try.underlying28 hi hz0 hz1 hz2 rfl (by decide) (.slice A3 i c3) i (itsS (xs.take i)) rfl HO3.out A 0 (n - (i + 1)) (itsS (xs.drop (i + 1))) rfl HLD.out HRX3.out (itsS_one _) (fun _ => rfl) (by unfold maxLen; have := HN5.out; omega) (by have := HN5.out; omega) HF3.out.size ?_
            intro v6 w6 ho6 hg6 _
            obtain ⟨A6, c6, rfl, _, _⟩ := own_form ho6
            have HF6 : Hid (Fr NoBlk w1 w6) := grown_no HF3.out HO3.out hg6
            have HO6 := Lib.hid ho6
            have f6 := (H1.out.nofr HF6.out).bk.free 0
            clear ho6 hg6 hHeld
            refine hK.out _ _ trivial (fun hHeld => ?_)
            clear hK K
            try simp only [Act.put, List.setIfInBounds_toArray, List.set_cons_zero, List.set_cons_succ]
            refine wpAnyH_take (i := 17) (oi := ⟨some 42, _, _, _, _, _⟩) (v := ?_) rfl (by kernel_rfl) (by kernel_rfl) (by kernel_rfl) (fun _ _ _ h => h) (Or.inl ⟨by rfl, ?_⟩) (by assumption) ?_
            rotate_left 1
            · (intro w hSw; (try dsimp only at hSw); go_simp) <;> (with_reducible rfl)
            try simp only [Act.put, List.setIfInBounds_toArray, List.set_cons_zero, List.set_cons_succ]
            refine wpAnyH_take (i := 18) (oi := ⟨some 43, _, _, _, _, _⟩) (v := ?_) rfl (by kernel_rfl) (by kernel_rfl) (by kernel_rfl) (fun _ _ _ h => h) (Or.inl ⟨by rfl, ?_⟩) (by assumption) ?_
            rotate_left 1
            · (intro w hSw; (try dsimp only at hSw); go_simp) <;> (with_reducible rfl)
            try simp only [Act.put, List.setIfInBounds_toArray, List.set_cons_zero, List.set_cons_succ]
            refine wpAnyH_ready (rs := [19]) (by kernel_rfl) (by simp) ?_
            refine AllReadyH.cons (o := ⟨none, _, _, _, _, _⟩) rfl (fun K hK => ?_) AllReadyH.nil
            have cX := TC.out _ HF6.out
            go_simp
            clear hHeld cX
            refine hK.out _ _ trivial (fun hHeld => ?_)
            clear hK K
            try simp only [Act.put, List.setIfInBounds_toArray, List.set_cons_zero, List.set_cons_succ]
            refine wpAnyH_done (by kernel_rfl) ?_ _
            go_wp2_with fail
            go_ret2
            exact TAIL.out _ _ _ HF6.out HO6.out
        · have cX := TC.out _ HF2.out
          have cY := TC.out _ (Fr.refl _ w1)
          go_simp
          clear hHeld cX cY
          refine hK.out _ _ trivial (fun hHeld => ?_)
          clear hK K
          try simp only [Act.put, List.setIfInBounds_toArray, List.set_cons_zero, List.set_cons_succ]
          refine wpAnyH_take (i := 15) (oi := ⟨some 40, _, _, _, _, _⟩) (v := ?_) rfl (by kernel_rfl) (by kernel_rfl) (by kernel_rfl) (fun _ _ _ h => h) (Or.inl ⟨by rfl, ?_⟩) (by assumption) ?_
          rotate_left 1
          · (intro w hSw; (try dsimp only at hSw); go_simp) <;> (with_reducible rfl)
          try simp only [Act.put, List.setIfInBounds_toArray, List.set_cons_zero, List.set_cons_succ]
          refine wpAnyH_ready (rs := [5]) (by kernel_rfl) (by simp) ?_
          refine AllReadyH.cons (o := ⟨some 30, _, _, _, _, _⟩) rfl (fun K hK => ?_) AllReadyH.nil
          have cX := TC.out _ HF2.out
          have cY := TC.out _ (Fr.refl _ w1)
          go_simp
          clear hHeld cX cY
          refine hK.out _ _ trivial (fun hHeld => ?_)
          clear hK K
          try simp only [Act.put, List.setIfInBounds_toArray, List.set_cons_zero, List.set_cons_succ]
          refine wpAnyH_take (i := 7) (oi := ⟨some 32, _, _, _, _, _⟩) (v := ?_) rfl (by kernel_rfl) (by kernel_rfl) (by kernel_rfl) (fun _ _ _ h => h) (Or.inl ⟨by rfl, ?_⟩) (by assumption) ?_
          rotate_left 1
          · (intro w hSw; (try dsimp only at hSw); go_simp) <;> (with_reducible rfl)
          try simp only [Act.put, List.setIfInBounds_toArray, List.set_cons_zero, List.set_cons_succ]
          refine wpAnyH_ready (rs := [8]) (by kernel_rfl) (by simp) ?_
          refine AllReadyH.cons (o := ⟨some 33, _, _, _, _, _⟩) rfl (fun K hK => ?_) AllReadyH.nil
          refine step_appW rfl _ _ 28 rfl w1.heap.size 43 i0 _ 2 24 Try.underlying28 hi hz0 hz1 hz2 rfl (by decide) (.slice (some ⟨q, 0, none⟩) 0 0) 0 [] rfl HO2.out A _ i (itsS (xs.take i)) rfl HLT.out HR2.out (itsS_one _) (fun e => by have := HAC.out e; omega) (by unfold maxLen; have := HN5.out; omega) (by have := HN5.out; omega) HF2.out.size ?_
          intro v3 w3 ho3 hg3 _
          try rw [List.nil_append, Nat.zero_add] at ho3
          obtain ⟨A3, c3, rfl, _, _⟩ := own_form ho3
          have HF3 : Hid (Fr NoBlk w1 w3) := grown_no HF2.out HO2.out hg3
          have HO3 := Lib.hid ho3
          have HRX3 : Hid (Rd w3 A (itsS (xs.drop (i + 1)))) := HRX.out.nofr HF3.out
          clear ho3 hg3 hHeld
          refine hK.out _ _ trivial (fun hHeld => ?_)
          clear hK K
          try simp only [Act.put, List.setIfInBounds_toArray, List.set_cons_zero, List.set_cons_succ]
          refine wpAnyH_ready (rs := [16]) (by kernel_rfl) (by simp) ?_
          refine AllReadyH.cons (o := ⟨some 41, _, _, _, _, _⟩) rfl (fun K hK => ?_) AllReadyH.nil
          refine step_appW rfl _ _ 28 rfl w1.heap.size 43 i0 _ 2 24 Try.underlying28 hi hz0 hz1 hz2 rfl (by decide) (.slice A3 i c3) i (itsS (xs.take i)) rfl HO3.out A 0 (n - (i + 1)) (itsS (xs.drop (i + 1))) rfl HLD.out HRX3.out (itsS_one _) (fun _ => rfl) (by unfold maxLen; have := HN5.out; omega) (by have := HN5.out; omega) HF3.out.size ?_
          intro v6 w6 ho6 hg6 _
          obtain ⟨A6, c6, rfl, _, _⟩ := own_form ho6
          have HF6 : Hid (Fr NoBlk w1 w6) := grown_no HF3.out HO3.out hg6
          have HO6 := Lib.hid ho6
          have f6 := (H1.out.nofr HF6.out).bk.free 0
          clear ho6 hg6 hHeld
          refine hK.out _ _ trivial (fun hHeld => ?_)
          clear hK K
          try simp only [Act.put, List.setIfInBounds_toArray, List.set_cons_zero, List.set_cons_succ]
          refine wpAnyH_take (i := 17) (oi := ⟨some 42, _, _, _, _, _⟩) (v := ?_) rfl (by kernel_rfl) (by kernel_rfl) (by kernel_rfl) (fun _ _ _ h => h) (Or.inl ⟨by rfl, ?_⟩) (by assumption) ?_
          rotate_left 1
          · (intro w hSw; (try dsimp only at hSw); go_simp) <;> (with_reducible rfl)
          try simp only [Act.put, List.setIfInBounds_toArray, List.set_cons_zero, List.set_cons_succ]
          refine wpAnyH_take (i := 18) (oi := ⟨some 43, _, _, _, _, _⟩) (v := ?_) rfl (by kernel_rfl) (by kernel_rfl) (by kernel_rfl) (fun _ _ _ h => h) (Or.inl ⟨by rfl, ?_⟩) (by assumption) ?_
          rotate_left 1
          · (intro w hSw; (try dsimp only at hSw); go_simp) <;> (with_reducible rfl)
          try simp only [Act.put, List.setIfInBounds_toArray, List.set_cons_zero, List.set_cons_succ]
          refine wpAnyH_ready (rs := [19]) (by kernel_rfl) (by simp) ?_
          refine AllReadyH.cons (o := ⟨none, _, _, _, _, _⟩) rfl (fun K hK => ?_) AllReadyH.nil
          have cX := TC.out _ HF6.out
          go_simp
          clear hHeld cX
          refine hK.out _ _ trivial (fun hHeld => ?_)
          clear hK K
          try simp only [Act.put, List.setIfInBounds_toArray, List.set_cons_zero, List.set_cons_succ]
          refine wpAnyH_done (by kernel_rfl) ?_ _
          go_wp2_with fail
          go_ret2
          exact TAIL.out _ _ _ HF6.out HO6.out
      · have cX := TC.out _ ((Fr.refl _ _).drew)
        have cY := TC.out _ (Fr.refl _ w1)
        go_simp
        clear hHeld cX cY
        refine hK.out _ _ trivial (fun hHeld => ?_)
        clear hK K
        try simp only [Act.put, List.setIfInBounds_toArray, List.set_cons_zero, List.set_cons_succ]
        refine wpAnyH_take (i := 7) (oi := ⟨some 32, _, _, _, _, _⟩) (v := ?_) rfl (by kernel_rfl) (by kernel_rfl) (by kernel_rfl) (fun _ _ _ h => h) (Or.inl ⟨by rfl, ?_⟩) (by assumption) ?_
        rotate_left 1
        · (intro w hSw; (try dsimp only at hSw); go_simp) <;> (with_reducible rfl)
        try simp only [Act.put, List.setIfInBounds_toArray, List.set_cons_zero, List.set_cons_succ]
        refine wpAnyH_ready (rs := [1, 12]) (by kernel_rfl) (by simp) ?_
        refine AllReadyH.cons (o := ⟨some 26, _, _, _, _, _⟩) rfl (fun K hK => ?_) (AllReadyH.cons (o := ⟨some 37, _, _, _, _, _⟩) rfl (fun K hK => ?_) AllReadyH.nil)
        · go_simp
          clear hHeld
          have hq := HQ.out
          have hw2 := HW2.out
          rw [← hw2, ← hq]
          clear hw2 hq
          refine hK.out _ _ trivial (fun hHeld => ?_)
          clear hK K
          try simp only [Act.put, List.setIfInBounds_toArray, List.set_cons_zero, List.set_cons_succ]
          refine wpAnyH_ready (rs := [8, 12]) (by kernel_rfl) (by simp) ?_
          refine AllReadyH.cons (o := ⟨some 33, _, _, _, _, _⟩) rfl (fun K hK => ?_) (AllReadyH.cons (o := ⟨some 37, _, _, _, _, _⟩) rfl (fun K hK => ?_) AllReadyH.nil)
          · refine step_appW rfl _ _ 28 rfl w1.heap.size 43 i0 _ 2 24 Try.underlying28 hi hz0 hz1 hz2 rfl (by decide) (.slice (some ⟨q, 0, none⟩) 0 0) 0 [] rfl HO2.out A _ i (itsS (xs.take i)) rfl HLT.out HR2.out (itsS_one _) (fun e => by have := HAC.out e; omega) (by unfold maxLen; have := HN5.out; omega) (by have := HN5.out; omega) HF2.out.size ?_
            intro v3 w3 ho3 hg3 _
            try rw [List.nil_append, Nat.zero_add] at ho3
            obtain ⟨A3, c3, rfl, _, _⟩ := own_form ho3
            have HF3 : Hid (Fr NoBlk w1 w3) := grown_no HF2.out HO2.out hg3
            have HO3 := Lib.hid ho3
            have HRX3 : Hid (Rd w3 A (itsS (xs.drop (i + 1)))) := HRX.out.nofr HF3.out
            clear ho3 hg3 hHeld
            refine hK.out _ _ trivial (fun hHeld => ?_)
            clear hK K
            try simp only [Act.put, List.setIfInBounds_toArray, List.set_cons_zero, List.set_cons_succ]
            refine wpAnyH_ready (rs := [12]) (by kernel_rfl) (by simp) ?_
            refine AllReadyH.cons (o := ⟨some 37, _, _, _, _, _⟩) rfl (fun K hK => ?_) AllReadyH.nil
            have cX := TC.out _ HF3.out
            have cY := TC.out _ (Fr.refl _ w1)
            go_simp
            clear hHeld cX cY
            refine hK.out _ _ trivial (fun hHeld => ?_)
            clear hK K
            try simp only [Act.put, List.setIfInBounds_toArray, List.set_cons_zero, List.set_cons_succ]
            refine wpAnyH_take (i := 15) (oi := ⟨some 40, _, _, _, _, _⟩) (v := ?_) rfl (by kernel_rfl) (by kernel_rfl) (by kernel_rfl) (fun _ _ _ h => h) (Or.inl ⟨by rfl, ?_⟩) (by assumption) ?_
            rotate_left 1
            · (intro w hSw; (try dsimp only at hSw); go_simp) <;> (with_reducible rfl)
            try simp only [Act.put, List.setIfInBounds_toArray, List.set_cons_zero, List.set_cons_succ]
            refine wpAnyH_ready (rs := [16]) (by kernel_rfl) (by simp) ?_
            refine AllReadyH.cons (o := ⟨some 41, _, _, _, _, _⟩) rfl (fun K hK => ?_) AllReadyH.nil
            refine step_appW rfl _ _ 28 rfl w1.heap.size 43 i0 _ 2 24 Try.underlying28 hi hz0 hz1 hz2 rfl (by decide) (.slice A3 i c3) i (itsS (xs.take i)) rfl HO3.out A 0 (n - (i + 1)) (itsS (xs.drop (i + 1))) rfl HLD.out HRX3.out (itsS_one _) (fun _ => rfl) (by unfold maxLen; have := HN5.out; omega) (by have := HN5.out; omega) HF3.out.size ?_
            intro v6 w6 ho6 hg6 _
            obtain ⟨A6, c6, rfl, _, _⟩ := own_form ho6
            have HF6 : Hid (Fr NoBlk w1 w6) := grown_no HF3.out HO3.out hg6
            have HO6 := Lib.hid ho6
            have f6 := (H1.out.nofr HF6.out).bk.free 0
            clear ho6 hg6 hHeld
            refine hK.out _ _ trivial (fun hHeld => ?_)
            clear hK K
            try simp only [Act.put, List.setIfInBounds_toArray, List.set_cons_zero, List.set_cons_succ]
            refine wpAnyH_take (i := 17) (oi := ⟨some 42, _, _, _, _, _⟩) (v := ?_) rfl (by kernel_rfl) (by kernel_rfl) (by kernel_rfl) (fun _ _ _ h => h) (Or.inl ⟨by rfl, ?_⟩) (by assumption) ?_
            rotate_left 1
            · (intro w hSw; (try dsimp only at hSw); go_simp) <;> (with_reducible rfl)
            try simp only [Act.put, List.setIfInBounds_toArray, List.set_cons_zero, List.set_cons_succ]
            refine wpAnyH_take (i := 18) (oi := ⟨some 43, _, _, _, _, _⟩) (v := ?_) rfl (by kernel_rfl) (by kernel_rfl) (by kernel_rfl) (fun _ _ _ h => h) (Or.inl ⟨by rfl, ?_⟩) (by assumption) ?_
            rotate_left 1
            · (intro w hSw; (try dsimp only at hSw); go_simp) <;> (with_reducible rfl)
            try simp only [Act.put, List.setIfInBounds_toArray, List.set_cons_zero, List.set_cons_succ]
            refine wpAnyH_ready (rs := [19]) (by kernel_rfl) (by simp) ?_
            refine AllReadyH.cons (o := ⟨none, _, _, _, _, _⟩) rfl (fun K hK => ?_) AllReadyH.nil
            have cX := TC.out _ HF6.out
            go_simp
            clear hHeld cX
            refine hK.out _ _ trivial (fun hHeld => ?_)
            clear hK K
            try simp only [Act.put, List.setIfInBounds_toArray, List.set_cons_zero, List.set_cons_succ]
            refine wpAnyH_done (by kernel_rfl) ?_ _
            go_wp2_with fail
            go_ret2
            exact TAIL.out _ _ _ HF6.out HO6.out
          · have cX := TC.out _ HF2.out
            have cY := TC.out _ (Fr.refl _ w1)
            go_simp
            clear hHeld cX cY
            refine hK.out _ _ trivial (fun hHeld => ?_)
            clear hK K
            try simp only [Act.put, List.setIfInBounds_toArray, List.set_cons_zero, List.set_cons_succ]
            refine wpAnyH_take (i := 15) (oi := ⟨some 40, _, _, _, _, _⟩) (v := ?_) rfl (by kernel_rfl) (by kernel_rfl) (by kernel_rfl) (fun _ _ _ h => h) (Or.inl ⟨by rfl, ?_⟩) (by assumption) ?_
            rotate_left 1
            · (intro w hSw; (try dsimp only at hSw); go_simp) <;> (with_reducible rfl)
            try simp only [Act.put, List.setIfInBounds_toArray, List.set_cons_zero, List.set_cons_succ]
            refine wpAnyH_ready (rs := [8]) (by kernel_rfl) (by simp) ?_
            refine AllReadyH.cons (o := ⟨some 33, _, _, _, _, _⟩) rfl (fun K hK => ?_) AllReadyH.nil
            refine step_appW rfl _ _ 28 rfl w1.heap.size 43 i0 _ 2 24 Try.underlying28 hi hz0 hz1 hz2 rfl (by decide) (.slice (some ⟨q, 0, none⟩) 0 0) 0 [] rfl HO2.out A _ i (itsS (xs.take i)) rfl HLT.out HR2.out (itsS_one _) (fun e => by have := HAC.out e; omega) (by unfold maxLen; have := HN5.out; omega) (by have := HN5.out; omega) HF2.out.size ?_
            intro v3 w3 ho3 hg3 _
            try rw [List.nil_append, Nat.zero_add] at ho3
            obtain ⟨A3, c3, rfl, _, _⟩ := own_form ho3
            have HF3 : Hid (Fr NoBlk w1 w3) := grown_no HF2.out HO2.out hg3
            have HO3 := Lib.hid ho3
            have HRX3 : Hid (Rd w3 A (itsS (xs.drop (i + 1)))) := HRX.out.nofr HF3.out
            clear ho3 hg3 hHeld
            refine hK.out _ _ trivial (fun hHeld => ?_)
            clear hK K
            try simp only [Act.put, List.setIfInBounds_toArray, List.set_cons_zero, List.set_cons_succ]
            refine wpAnyH_ready (rs := [16]) (by kernel_rfl) (by simp) ?_
            refine AllReadyH.cons (o := ⟨some 41, _, _, _, _, _⟩) rfl (fun K hK => ?_) AllReadyH.nil
            refine step_appW rfl _ _ 28 rfl w1.heap.size 43 i0 _ 2 24 Try.underlying28 hi hz0 hz1 hz2 rfl (by decide) (.slice A3 i c3) i (itsS (xs.take i)) rfl HO3.out A 0 (n - (i + 1)) (itsS (xs.drop (i + 1))) rfl HLD.out HRX3.out (itsS_one _) (fun _ => rfl) (by unfold maxLen; have := HN5.out; omega) (by have := HN5.out; omega) HF3.out.size ?_
            intro v6 w6 ho6 hg6 _
            obtain ⟨A6, c6, rfl, _, _⟩ := own_form ho6
            have HF6 : Hid (Fr NoBlk w1 w6) := grown_no HF3.out HO3.out hg6
            have HO6 := Lib.hid ho6
            have f6 := (H1.out.nofr HF6.out).bk.free 0
            clear ho6 hg6 hHeld
            refine hK.out _ _ trivial (fun hHeld => ?_)
            clear hK K
            try simp only [Act.put, List.setIfInBounds_toArray, List.set_cons_zero, List.set_cons_succ]
            refine wpAnyH_take (i := 17) (oi := ⟨some 42, _, _, _, _, _⟩) (v := ?_) rfl (by kernel_rfl) (by kernel_rfl) (by kernel_rfl) (fun _ _ _ h => h) (Or.inl ⟨by rfl, ?_⟩) (by assumption) ?_
            rotate_left 1
            · (intro w hSw; (try dsimp only at hSw); go_simp) <;> (with_reducible rfl)
            try simp only [Act.put, List.setIfInBounds_toArray, List.set_cons_zero, List.set_cons_succ]
            refine wpAnyH_take (i := 18) (oi := ⟨some 43, _, _, _, _, _⟩) (v := ?_) rfl (by kernel_rfl) (by kernel_rfl) (by kernel_rfl) (fun _ _ _ h => h) (Or.inl ⟨by rfl, ?_⟩) (by assumption) ?_
            rotate_left 1
            · (intro w hSw; (try dsimp only at hSw); go_simp) <;> (with_reducible rfl)
            try simp only [Act.put, List.setIfInBounds_toArray, List.set_cons_zero, List.set_cons_succ]
            refine wpAnyH_ready (rs := [19]) (by kernel_rfl) (by simp) ?_
            refine AllReadyH.cons (o := ⟨none, _, _, _, _, _⟩) rfl (fun K hK => ?_) AllReadyH.nil
            have cX := TC.out _ HF6.out
            go_simp
            clear hHeld cX
            refine hK.out _ _ trivial (fun hHeld => ?_)
            clear hK K
            try simp only [Act.put, List.setIfInBounds_toArray, List.set_cons_zero, List.set_cons_succ]
            refine wpAnyH_done (by kernel_rfl) ?_ _
            go_wp2_with fail
            go_ret2
            exact TAIL.out _ _ _ HF6.out HO6.out
        · have cX := TC.out _ ((Fr.refl _ _).drew)
          have cY := TC.out _ (Fr.refl _ w1)
          go_simp
          clear hHeld cX cY
          refine hK.out _ _ trivial (fun hHeld => ?_)
          clear hK K
          try simp only [Act.put, List.setIfInBounds_toArray, List.set_cons_zero, List.set_cons_succ]
          refine wpAnyH_take (i := 15) (oi := ⟨some 40, _, _, _, _, _⟩) (v := ?_) rfl (by kernel_rfl) (by kernel_rfl) (by kernel_rfl) (fun _ _ _ h => h) (Or.inl ⟨by rfl, ?_⟩) (by assumption) ?_
          rotate_left 1
          · (intro w hSw; (try dsimp only at hSw); go_simp) <;> (with_reducible rfl)
          try simp only [Act.put, List.setIfInBounds_toArray, List.set_cons_zero, List.set_cons_succ]
          refine wpAnyH_ready (rs := [1]) (by kernel_rfl) (by simp) ?_
          refine AllReadyH.cons (o := ⟨some 26, _, _, _, _, _⟩) rfl (fun K hK => ?_) AllReadyH.nil
          go_simp
          clear hHeld
          have hq := HQ.out
          have hw2 := HW2.out
          rw [← hw2, ← hq]
          clear hw2 hq
          refine hK.out _ _ trivial (fun hHeld => ?_)
          clear hK K
          try simp only [Act.put, List.setIfInBounds_toArray, List.set_cons_zero, List.set_cons_succ]
          refine wpAnyH_ready (rs := [8]) (by kernel_rfl) (by simp) ?_
          refine AllReadyH.cons (o := ⟨some 33, _, _, _, _, _⟩) rfl (fun K hK => ?_) AllReadyH.nil
          refine step_appW rfl _ _ 28 rfl w1.heap.size 43 i0 _ 2 24 Try.underlying28 hi hz0 hz1 hz2 rfl (by decide) (.slice (some ⟨q, 0, none⟩) 0 0) 0 [] rfl HO2.out A _ i (itsS (xs.take i)) rfl HLT.out HR2.out (itsS_one _) (fun e => by have := HAC.out e; omega) (by unfold maxLen; have := HN5.out; omega) (by have := HN5.out; omega) HF2.out.size ?_
          intro v3 w3 ho3 hg3 _
          try rw [List.nil_append, Nat.zero_add] at ho3
          obtain ⟨A3, c3, rfl, _, _⟩ := own_form ho3
          have HF3 : Hid (Fr NoBlk w1 w3) := grown_no HF2.out HO2.out hg3
          have HO3 := Lib.hid ho3
          have HRX3 : Hid (Rd w3 A (itsS (xs.drop (i + 1)))) := HRX.out.nofr HF3.out
          clear ho3 hg3 hHeld
          refine hK.out _ _ trivial (fun hHeld => ?_)
          clear hK K
          try simp only [Act.put, List.setIfInBounds_toArray, List.set_cons_zero, List.set_cons_succ]
          refine wpAnyH_ready (rs := [16]) (by kernel_rfl) (by simp) ?_
          refine AllReadyH.cons (o := ⟨some 41, _, _, _, _, _⟩) rfl (fun K hK => ?_) AllReadyH.nil
          refine step_appW rfl _ _ 28 rfl w1.heap.size 43 i0 _ 2 24 Try.underlying28 hi hz0 hz1 hz2 rfl (by decide) (.slice A3 i c3) i (itsS (xs.take i)) rfl HO3.out A 0 (n - (i + 1)) (itsS (xs.drop (i + 1))) rfl HLD.out HRX3.out (itsS_one _) (fun _ => rfl) (by unfold maxLen; have := HN5.out; omega) (by have := HN5.out; omega) HF3.out.size ?_
          intro v6 w6 ho6 hg6 _
          obtain ⟨A6, c6, rfl, _, _⟩ := own_form ho6
          have HF6 : Hid (Fr NoBlk w1 w6) := grown_no HF3.out HO3.out hg6
          have HO6 := Lib.hid ho6
          have f6 := (H1.out.nofr HF6.out).bk.free 0
          clear ho6 hg6 hHeld
          refine hK.out _ _ trivial (fun hHeld => ?_)
          clear hK K
          try simp only [Act.put, List.setIfInBounds_toArray, List.set_cons_zero, List.set_cons_succ]
          refine wpAnyH_take (i := 17) (oi := ⟨some 42, _, _, _, _, _⟩) (v := ?_) rfl (by kernel_rfl) (by kernel_rfl) (by kernel_rfl) (fun _ _ _ h => h) (Or.inl ⟨by rfl, ?_⟩) (by assumption) ?_
          rotate_left 1
          · (intro w hSw; (try dsimp only at hSw); go_simp) <;> (with_reducible rfl)
          try simp only [Act.put, List.setIfInBounds_toArray, List.set_cons_zero, List.set_cons_succ]
          refine wpAnyH_take (i := 18) (oi := ⟨some 43, _, _, _, _, _⟩) (v := ?_) rfl (by kernel_rfl) (by kernel_rfl) (by kernel_rfl) (fun _ _ _ h => h) (Or.inl ⟨by rfl, ?_⟩) (by assumption) ?_
          rotate_left 1
          · (intro w hSw; (try dsimp only at hSw); go_simp) <;> (with_reducible rfl)
          try simp only [Act.put, List.setIfInBounds_toArray, List.set_cons_zero, List.set_cons_succ]
          refine wpAnyH_ready (rs := [19]) (by kernel_rfl) (by simp) ?_
          refine AllReadyH.cons (o := ⟨none, _, _, _, _, _⟩) rfl (fun K hK => ?_) AllReadyH.nil
          have cX := TC.out _ HF6.out
          go_simp
          clear hHeld cX
          refine hK.out _ _ trivial (fun hHeld => ?_)
          clear hK K
          try simp only [Act.put, List.setIfInBounds_toArray, List.set_cons_zero, List.set_cons_succ]
          refine wpAnyH_done (by kernel_rfl) ?_ _
          go_wp2_with fail
          go_ret2
          exact TAIL.out _ _ _ HF6.out HO6.out
      · have cX := TC.out _ ((Fr.refl _ _).drew)
        have cY := TC.out _ (Fr.refl _ w1)
        go_simp
        clear hHeld cX cY
        refine hK.out _ _ trivial (fun hHeld => ?_)
        clear hK K
        try simp only [Act.put, List.setIfInBounds_toArray, List.set_cons_zero, List.set_cons_succ]
        refine wpAnyH_take (i := 15) (oi := ⟨some 40, _, _, _, _, _⟩) (v := ?_) rfl (by kernel_rfl) (by kernel_rfl) (by kernel_rfl) (fun _ _ _ h => h) (Or.inl ⟨by rfl, ?_⟩) (by assumption) ?_
        rotate_left 1
        · (intro w hSw; (try dsimp only at hSw); go_simp) <;> (with_reducible rfl)
        try simp only [Act.put, List.setIfInBounds_toArray, List.set_cons_zero, List.set_cons_succ]
        refine wpAnyH_ready (rs := [1, 5]) (by kernel_rfl) (by simp) ?_
        refine AllReadyH.cons (o := ⟨some 26, _, _, _, _, _⟩) rfl (fun K hK => ?_) (AllReadyH.cons (o := ⟨some 30, _, _, _, _, _⟩) rfl (fun K hK => ?_) AllReadyH.nil)
        · go_simp
          clear hHeld
          have hq := HQ.out
          have hw2 := HW2.out
          rw [← hw2, ← hq]
          clear hw2 hq
          refine hK.out _ _ trivial (fun hHeld => ?_)
          clear hK K
          try simp only [Act.put, List.setIfInBounds_toArray, List.set_cons_zero, List.set_cons_succ]
          refine wpAnyH_ready (rs := [5]) (by kernel_rfl) (by simp) ?_
          refine AllReadyH.cons (o := ⟨some 30, _, _, _, _, _⟩) rfl (fun K hK => ?_) AllReadyH.nil
          have cX := TC.out _ HF2.out
          have cY := TC.out _ (Fr.refl _ w1)
          go_simp
          clear hHeld cX cY
          refine hK.out _ _ trivial (fun hHeld => ?_)
          clear hK K
          try simp only [Act.put, List.setIfInBounds_toArray, List.set_cons_zero, List.set_cons_succ]
          refine wpAnyH_take (i := 7) (oi := ⟨some 32, _, _, _, _, _⟩) (v := ?_) rfl (by kernel_rfl) (by kernel_rfl) (by kernel_rfl) (fun _ _ _ h => h) (Or.inl ⟨by rfl, ?_⟩) (by assumption) ?_
          rotate_left 1
          · (intro w hSw; (try dsimp only at hSw); go_simp) <;> (with_reducible rfl)
          try simp only [Act.put, List.setIfInBounds_toArray, List.set_cons_zero, List.set_cons_succ]
          refine wpAnyH_ready (rs := [8]) (by kernel_rfl) (by simp) ?_
          refine AllReadyH.cons (o := ⟨some 33, _, _, _, _, _⟩) rfl (fun K hK => ?_) AllReadyH.nil
          refine step_appW rfl _ _ 28 rfl w1.heap.size 43 i0 _ 2 24 Try.underlying28 hi hz0 hz1 hz2 rfl (by decide) (.slice (some ⟨q, 0, none⟩) 0 0) 0 [] rfl HO2.out A _ i (itsS (xs.take i)) rfl HLT.out HR2.out (itsS_one _) (fun e => by have := HAC.out e; omega) (by unfold maxLen; have := HN5.out; omega) (by have := HN5.out; omega) HF2.out.size ?_
          intro v3 w3 ho3 hg3 _
          try rw [List.nil_append, Nat.zero_add] at ho3
          obtain ⟨A3, c3, rfl, _, _⟩ := own_form ho3
          have HF3 : Hid (Fr NoBlk w1 w3) := grown_no HF2.out HO2.out hg3
          have HO3 := Lib.hid ho3
          have HRX3 : Hid (Rd w3 A (itsS (xs.drop (i + 1)))) := HRX.out.nofr HF3.out
          clear ho3 hg3 hHeld
          refine hK.out _ _ trivial (fun hHeld => ?_)
          clear hK K
          try simp only [Act.put, List.setIfInBounds_toArray, List.set_cons_zero, List.set_cons_succ]
          refine wpAnyH_ready (rs := [16]) (by kernel_rfl) (by simp) ?_
          refine AllReadyH.cons (o := ⟨some 41, _, _, _, _, _⟩) rfl (fun K hK => ?_) AllReadyH.nil
          refine step_appW rfl _ _ 28 rfl w1.heap.size 43 i0 _ 2 24 Try.underlying28 hi hz0 hz1 hz2 rfl (by decide) (.slice A3 i c3) i (itsS (xs.take i)) rfl HO3.out A 0 (n - (i + 1)) (itsS (xs.drop (i + 1))) rfl HLD.out HRX3.out (itsS_one _) (fun _ => rfl) (by unfold maxLen; have := HN5.out; omega) (by have := HN5.out; omega) HF3.out.size ?_
          intro v6 w6 ho6 hg6 _
          obtain ⟨A6, c6, rfl, _, _⟩ := own_form ho6
          have HF6 : Hid (Fr NoBlk w1 w6) := grown_no HF3.out HO3.out hg6
          have HO6 := Lib.hid ho6
          have f6 := (H1.out.nofr HF6.out).bk.free 0
          clear ho6 hg6 hHeld
          refine hK.out _ _ trivial (fun hHeld => ?_)
          clear hK K
          try simp only [Act.put, List.setIfInBounds_toArray, List.set_cons_zero, List.set_cons_succ]
          refine wpAnyH_take (i := 17) (oi := ⟨some 42, _, _, _, _, _⟩) (v := ?_) rfl (by kernel_rfl) (by kernel_rfl) (by kernel_rfl) (fun _ _ _ h => h) (Or.inl ⟨by rfl, ?_⟩) (by assumption) ?_
          rotate_left 1
          · (intro w hSw; (try dsimp only at hSw); go_simp) <;> (with_reducible rfl)
          try simp only [Act.put, List.setIfInBounds_toArray, List.set_cons_zero, List.set_cons_succ]
          refine wpAnyH_take (i := 18) (oi := ⟨some 43, _, _, _, _, _⟩) (v := ?_) rfl (by kernel_rfl) (by kernel_rfl) (by kernel_rfl) (fun _ _ _ h => h) (Or.inl ⟨by rfl, ?_⟩) (by assumption) ?_
          rotate_left 1
          · (intro w hSw; (try dsimp only at hSw); go_simp) <;> (with_reducible rfl)
          try simp only [Act.put, List.setIfInBounds_toArray, List.set_cons_zero, List.set_cons_succ]
          refine wpAnyH_ready (rs := [19]) (by kernel_rfl) (by simp) ?_
          refine AllReadyH.cons (o := ⟨none, _, _, _, _, _⟩) rfl (fun K hK => ?_) AllReadyH.nil
          have cX := TC.out _ HF6.out
          go_simp
          clear hHeld cX
          refine hK.out _ _ trivial (fun hHeld => ?_)
          clear hK K
          try simp only [Act.put, List.setIfInBounds_toArray, List.set_cons_zero, List.set_cons_succ]
          refine wpAnyH_done (by kernel_rfl) ?_ _
          go_wp2_with fail
          go_ret2
          exact TAIL.out _ _ _ HF6.out HO6.out
        · have cX := TC.out _ ((Fr.refl _ _).drew)
          have cY := TC.out _ (Fr.refl _ w1)
          go_simp
          clear hHeld cX cY
          refine hK.out _ _ trivial (fun hHeld => ?_)
          clear hK K
          try simp only [Act.put, List.setIfInBounds_toArray, List.set_cons_zero, List.set_cons_succ]
          refine wpAnyH_take (i := 7) (oi := ⟨some 32, _, _, _, _, _⟩) (v := ?_) rfl (by kernel_rfl) (by kernel_rfl) (by kernel_rfl) (fun _ _ _ h => h) (Or.inl ⟨by rfl, ?_⟩) (by assumption) ?_
          rotate_left 1
          · (intro w hSw; (try dsimp only at hSw); go_simp) <;> (with_reducible rfl)
          try simp only [Act.put, List.setIfInBounds_toArray, List.set_cons_zero, List.set_cons_succ]
          refine wpAnyH_ready (rs := [1]) (by kernel_rfl) (by simp) ?_
          refine AllReadyH.cons (o := ⟨some 26, _, _, _, _, _⟩) rfl (fun K hK => ?_) AllReadyH.nil
          go_simp
          clear hHeld
          have hq := HQ.out
          have hw2 := HW2.out
          rw [← hw2, ← hq]
          clear hw2 hq
          refine hK.out _ _ trivial (fun hHeld => ?_)
          clear hK K
          try simp only [Act.put, List.setIfInBounds_toArray, List.set_cons_zero, List.set_cons_succ]
          refine wpAnyH_ready (rs := [8]) (by kernel_rfl) (by simp) ?_
          refine AllReadyH.cons (o := ⟨some 33, _, _, _, _, _⟩) rfl (fun K hK => ?_) AllReadyH.nil
          refine step_appW rfl _ _ 28 rfl w1.heap.size 43 i0 _ 2 24 Try.underlying28 hi hz0 hz1 hz2 rfl (by decide) (.slice (some ⟨q, 0, none⟩) 0 0) 0 [] rfl HO2.out A _ i (itsS (xs.take i)) rfl HLT.out HR2.out (itsS_one _) (fun e => by have := HAC.out e; omega) (by unfold maxLen; have := HN5.out; omega) (by have := HN5.out; omega) HF2.out.size ?_
          intro v3 w3 ho3 hg3 _
          try rw [List.nil_append, Nat.zero_add] at ho3
          obtain ⟨A3, c3, rfl, _, _⟩ := own_form ho3
          have HF3 : Hid (Fr NoBlk w1 w3) := grown_no HF2.out HO2.out hg3
          have HO3 := Lib.hid ho3
          have HRX3 : Hid (Rd w3 A (itsS (xs.drop (i + 1)))) := HRX.out.nofr HF3.out
          clear ho3 hg3 hHeld
          refine hK.out _ _ trivial (fun hHeld => ?_)
          clear hK K
          try simp only [Act.put, List.setIfInBounds_toArray, List.set_cons_zero, List.set_cons_succ]
          refine wpAnyH_ready (rs := [16]) (by kernel_rfl) (by simp) ?_
          refine AllReadyH.cons (o := ⟨some 41, _, _, _, _, _⟩) rfl (fun K hK => ?_) AllReadyH.nil
          refine step_appW rfl _ _ 28 rfl w1.heap.size 43 i0 _ 2 24 Try.underlying28 hi hz0 hz1 hz2 rfl (by decide) (.slice A3 i c3) i (itsS (xs.take i)) rfl HO3.out A 0 (n - (i + 1)) (itsS (xs.drop (i + 1))) rfl HLD.out HRX3.out (itsS_one _) (fun _ => rfl) (by unfold maxLen; have := HN5.out; omega) (by have := HN5.out; omega) HF3.out.size ?_
          intro v6 w6 ho6 hg6 _
          obtain ⟨A6, c6, rfl, _, _⟩ := own_form ho6
          have HF6 : Hid (Fr NoBlk w1 w6) := grown_no HF3.out HO3.out hg6
          have HO6 := Lib.hid ho6
          have f6 := (H1.out.nofr HF6.out).bk.free 0
          clear ho6 hg6 hHeld
          refine hK.out _ _ trivial (fun hHeld => ?_)
          clear hK K
          try simp only [Act.put, List.setIfInBounds_toArray, List.set_cons_zero, List.set_cons_succ]
          refine wpAnyH_take (i := 17) (oi := ⟨some 42, _, _, _, _, _⟩) (v := ?_) rfl (by kernel_rfl) (by kernel_rfl) (by kernel_rfl) (fun _ _ _ h => h) (Or.inl ⟨by rfl, ?_⟩) (by assumption) ?_
          rotate_left 1
          · (intro w hSw; (try dsimp only at hSw); go_simp) <;> (with_reducible rfl)
          try simp only [Act.put, List.setIfInBounds_toArray, List.set_cons_zero, List.set_cons_succ]
          refine wpAnyH_take (i := 18) (oi := ⟨some 43, _, _, _, _, _⟩) (v := ?_) rfl (by kernel_rfl) (by kernel_rfl) (by kernel_rfl) (fun _ _ _ h => h) (Or.inl ⟨by rfl, ?_⟩) (by assumption) ?_
          rotate_left 1
          · (intro w hSw; (try dsimp only at hSw); go_simp) <;> (with_reducible rfl)
          try simp only [Act.put, List.setIfInBounds_toArray, List.set_cons_zero, List.set_cons_succ]
          refine wpAnyH_ready (rs := [19]) (by kernel_rfl) (by simp) ?_
          refine AllReadyH.cons (o := ⟨none, _, _, _, _, _⟩) rfl (fun K hK => ?_) AllReadyH.nil
          have cX := TC.out _ HF6.out
          go_simp
          clear hHeld cX
          refine hK.out _ _ trivial (fun hHeld => ?_)
          clear hK K
          try simp only [Act.put, List.setIfInBounds_toArray, List.set_cons_zero, List.set_cons_succ]
          refine wpAnyH_done (by kernel_rfl) ?_ _
          go_wp2_with fail
          go_ret2
          exact TAIL.out _ _ _ HF6.out HO6.out
    · have HRX : Hid (Rd w1 (A.map fun x => x.add ((i + 1) * 2)) (itsS (xs.drop (i + 1)))) := by show Rd _ _ _; rw [itsS_drop]; exact HRD.out.cut_ (by rw [itsS_len, ← HN.out]; omega)
      go_wp2_with fail
      clear c1 d1
      refine wp_region_held_drew (S := fun _ => True) (by kernel_rfl) trivial (fun hHeld => ?_)
      refine wpAnyH_take (i := 0) (oi := ⟨some 25, _, _, _, _, _⟩) (v := ?_) rfl (by kernel_rfl) (by kernel_rfl) (by kernel_rfl) (fun _ _ _ h => h) (Or.inl ⟨by rfl, ?_⟩) (by assumption) ?_
      rotate_left 1
      · (intro w hSw; (try dsimp only at hSw); go_simp) <;> (with_reducible rfl)
      try simp only [Act.put, List.setIfInBounds_toArray, List.set_cons_zero, List.set_cons_succ]
      refine wpAnyH_take (i := 2) (oi := ⟨some 27, _, _, _, _, _⟩) (v := ?_) rfl (by kernel_rfl) (by kernel_rfl) (by kernel_rfl) (fun _ _ _ h => h) (Or.inl ⟨by rfl, ?_⟩) (by assumption) ?_
      rotate_left 1
      · (intro w hSw; (try dsimp only at hSw); go_simp) <;> (with_reducible rfl)
      try simp only [Act.put, List.setIfInBounds_toArray, List.set_cons_zero, List.set_cons_succ]
      refine wpAnyH_take (i := 3) (oi := ⟨some 28, _, _, _, _, _⟩) (v := ?_) rfl (by kernel_rfl) (by kernel_rfl) (by kernel_rfl) (fun _ _ _ h => h) (Or.inl ⟨by rfl, ?_⟩) (by assumption) ?_
      rotate_left 1
      · (intro w hSw; (try dsimp only at hSw); go_simp) <;> (with_reducible rfl)
      try simp only [Act.put, List.setIfInBounds_toArray, List.set_cons_zero, List.set_cons_succ]
      refine wpAnyH_take (i := 4) (oi := ⟨some 29, _, _, _, _, _⟩) (v := ?_) rfl (by kernel_rfl) (by kernel_rfl) (by kernel_rfl) (fun _ _ _ h => h) (Or.inl ⟨by rfl, ?_⟩) (by assumption) ?_
      rotate_left 1
      · (intro w hSw; (try dsimp only at hSw); go_simp) <;> (with_reducible rfl)
      try simp only [Act.put, List.setIfInBounds_toArray, List.set_cons_zero, List.set_cons_succ]
      refine wpAnyH_take (i := 6) (oi := ⟨some 31, _, _, _, _, _⟩) (v := ?_) rfl (by kernel_rfl) (by kernel_rfl) (by kernel_rfl) (fun _ _ _ h => h) (Or.inl ⟨by rfl, ?_⟩) (by assumption) ?_
      rotate_left 1
      · (intro w hSw; (try dsimp only at hSw); go_simp) <;> (with_reducible rfl)
      try simp only [Act.put, List.setIfInBounds_toArray, List.set_cons_zero, List.set_cons_succ]
      refine wpAnyH_take (i := 9) (oi := ⟨some 34, _, _, _, _, _⟩) (v := ?_) rfl (by kernel_rfl) (by kernel_rfl) (by kernel_rfl) (fun _ _ _ h => h) (Or.inl ⟨by rfl, ?_⟩) (by assumption) ?_
      rotate_left 1
      · (intro w hSw; (try dsimp only at hSw); go_simp) <;> (with_reducible rfl)
      try simp only [Act.put, List.setIfInBounds_toArray, List.set_cons_zero, List.set_cons_succ]
      refine wpAnyH_take (i := 10) (oi := ⟨some 35, _, _, _, _, _⟩) (v := ?_) rfl (by kernel_rfl) (by kernel_rfl) (by kernel_rfl) (fun _ _ _ h => h) (Or.inl ⟨by rfl, ?_⟩) (by assumption) ?_
      rotate_left 1
      · (intro w hSw; (try dsimp only at hSw); go_simp) <;> (with_reducible rfl)
      try simp only [Act.put, List.setIfInBounds_toArray, List.set_cons_zero, List.set_cons_succ]
      refine wpAnyH_take (i := 11) (oi := ⟨some 36, _, _, _, _, _⟩) (v := ?_) rfl (by kernel_rfl) (by kernel_rfl) (by kernel_rfl) (fun _ _ _ h => h) (Or.inl ⟨by rfl, ?_⟩) (by assumption) ?_
      rotate_left 1
      · (intro w hSw; (try dsimp only at hSw); go_simp) <;> (with_reducible rfl)
      try simp only [Act.put, List.setIfInBounds_toArray, List.set_cons_zero, List.set_cons_succ]
      refine wpAnyH_take (i := 13) (oi := ⟨some 38, _, _, _, _, _⟩) (v := ?_) rfl (by kernel_rfl) (by kernel_rfl) (by kernel_rfl) (fun _ _ _ h => h) (Or.inl ⟨by rfl, ?_⟩) (by assumption) ?_
      rotate_left 1
      · (intro w hSw; (try dsimp only at hSw); go_simp) <;> (with_reducible rfl)
      try simp only [Act.put, List.setIfInBounds_toArray, List.set_cons_zero, List.set_cons_succ]
      refine wpAnyH_take (i := 14) (oi := ⟨some 39, _, _, _, _, _⟩) (v := ?_) rfl (by kernel_rfl) (by kernel_rfl) (by kernel_rfl) (fun _ _ _ h => h) (Or.inl ⟨by rfl, ?_⟩) (by assumption) ?_
      rotate_left 1
      · (intro w hSw; (try dsimp only at hSw); go_simp) <;> (with_reducible rfl)
      try simp only [Act.put, List.setIfInBounds_toArray, List.set_cons_zero, List.set_cons_succ]
      refine wpAnyH_ready (rs := [1, 5, 12]) (by kernel_rfl) (by simp) ?_
      refine AllReadyH.cons (o := ⟨some 26, _, _, _, _, _⟩) rfl (fun K hK => ?_) (AllReadyH.cons (o := ⟨some 30, _, _, _, _, _⟩) rfl (fun K hK => ?_) (AllReadyH.cons (o := ⟨some 37, _, _, _, _, _⟩) rfl (fun K hK => ?_) AllReadyH.nil))
      · go_simp
        clear hHeld
        have hq := HQ.out
        have hw2 := HW2.out
        rw [← hw2, ← hq]
        clear hw2 hq
        refine hK.out _ _ trivial (fun hHeld => ?_)
        clear hK K
        try simp only [Act.put, List.setIfInBounds_toArray, List.set_cons_zero, List.set_cons_succ]
        refine wpAnyH_ready (rs := [5, 12]) (by kernel_rfl) (by simp) ?_
        refine AllReadyH.cons (o := ⟨some 30, _, _, _, _, _⟩) rfl (fun K hK => ?_) (AllReadyH.cons (o := ⟨some 37, _, _, _, _, _⟩) rfl (fun K hK => ?_) AllReadyH.nil)
        · have cX := TC.out _ HF2.out
          have cY := TC.out _ (Fr.refl _ w1)
          go_simp
          clear hHeld cX cY
          refine hK.out _ _ trivial (fun hHeld => ?_)
          clear hK K
          try simp only [Act.put, List.setIfInBounds_toArray, List.set_cons_zero, List.set_cons_succ]
          refine wpAnyH_take (i := 7) (oi := ⟨some 32, _, _, _, _, _⟩) (v := ?_) rfl (by kernel_rfl) (by kernel_rfl) (by kernel_rfl) (fun _ _ _ h => h) (Or.inl ⟨by rfl, ?_⟩) (by assumption) ?_
          rotate_left 1
          · (intro w hSw; (try dsimp only at hSw); go_simp) <;> (with_reducible rfl)
          try simp only [Act.put, List.setIfInBounds_toArray, List.set_cons_zero, List.set_cons_succ]
          refine wpAnyH_ready (rs := [8, 12]) (by kernel_rfl) (by simp) ?_
          refine AllReadyH.cons (o := ⟨some 33, _, _, _, _, _⟩) rfl (fun K hK => ?_) (AllReadyH.cons (o := ⟨some 37, _, _, _, _, _⟩) rfl (fun K hK => ?_) AllReadyH.nil)
          · refine step_appW rfl _ _ 28 rfl w1.heap.size 43 i0 _ 2 24 Try.underlying28 hi hz0 hz1 hz2 rfl (by decide) (.slice (some ⟨q, 0, none⟩) 0 0) 0 [] rfl HO2.out A _ i (itsS (xs.take i)) rfl HLT.out HR2.out (itsS_one _) (fun e => by have := HAC.out e; omega) (by unfold maxLen; have := HN5.out; omega) (by have := HN5.out; omega) HF2.out.size ?_
            intro v3 w3 ho3 hg3 _
            try rw [List.nil_append, Nat.zero_add] at ho3
            obtain ⟨A3, c3, rfl, _, _⟩ := own_form ho3
            have HF3 : Hid (Fr NoBlk w1 w3) := grown_no HF2.out HO2.out hg3
            have HO3 := Lib.hid ho3
            have HRX3 : Hid (Rd w3 (A.map fun x => x.add ((i + 1) * 2)) (itsS (xs.drop (i + 1)))) := HRX.out.nofr HF3.out
            clear ho3 hg3 hHeld
            refine hK.out _ _ trivial (fun hHeld => ?_)
            clear hK K
            try simp only [Act.put, List.setIfInBounds_toArray, List.set_cons_zero, List.set_cons_succ]
            refine wpAnyH_ready (rs := [12]) (by kernel_rfl) (by simp) ?_
            refine AllReadyH.cons (o := ⟨some 37, _, _, _, _, _⟩) rfl (fun K hK => ?_) AllReadyH.nil
            have cX := TC.out _ HF3.out
            have cY := TC.out _ (Fr.refl _ w1)
            go_simp
            clear hHeld cX cY
            refine hK.out _ _ trivial (fun hHeld => ?_)
            clear hK K
            try simp only [Act.put, List.setIfInBounds_toArray, List.set_cons_zero, List.set_cons_succ]
            refine wpAnyH_take (i := 15) (oi := ⟨some 40, _, _, _, _, _⟩) (v := ?_) rfl (by kernel_rfl) (by kernel_rfl) (by kernel_rfl) (fun _ _ _ h => h) (Or.inl ⟨by rfl, ?_⟩) (by assumption) ?_
            rotate_left 1
            · (intro w hSw; (try dsimp only at hSw); go_simp) <;> (with_reducible rfl)
            try simp only [Act.put, List.setIfInBounds_toArray, List.set_cons_zero, List.set_cons_succ]
            refine wpAnyH_ready (rs := [16]) (by kernel_rfl) (by simp) ?_
            refine AllReadyH.cons (o := ⟨some 41, _, _, _, _, _⟩) rfl (fun K hK => ?_) AllReadyH.nil
            refine step_appW rfl _ _ 28 rfl w1.heap.size 43 i0 _ 2 24 Try.underlying28 hi hz0 hz1 hz2 rfl (by decide) (.slice A3 i c3) i (itsS (xs.take i)) rfl HO3.out (A.map fun x => x.add ((i + 1) * 2)) (c - (i + 1)) (n - (i + 1)) (itsS (xs.drop (i + 1))) rfl HLD.out HRX3.out (itsS_one _) (fun e => by have := HAC.out (by cases A with | none => rfl | some a => cases e); omega) (by unfold maxLen; have := HN5.out; omega) (by have := HN5.out; omega) HF3.out.size ?_
            intro v6 w6 ho6 hg6 _
            obtain ⟨A6, c6, rfl, _, _⟩ := own_form ho6
            have HF6 : Hid (Fr NoBlk w1 w6) := grown_no HF3.out HO3.out hg6
            have HO6 := Lib.hid ho6
            have f6 := (H1.out.nofr HF6.out).bk.free 0
            clear ho6 hg6 hHeld
            refine hK.out _ _ trivial (fun hHeld => ?_)
            clear hK K
            try simp only [Act.put, List.setIfInBounds_toArray, List.set_cons_zero, List.set_cons_succ]
            refine wpAnyH_take (i := 17) (oi := ⟨some 42, _, _, _, _, _⟩) (v := ?_) rfl (by kernel_rfl) (by kernel_rfl) (by kernel_rfl) (fun _ _ _ h => h) (Or.inl ⟨by rfl, ?_⟩) (by assumption) ?_
            rotate_left 1
            · (intro w hSw; (try dsimp only at hSw); go_simp) <;> (with_reducible rfl)
            try simp only [Act.put, List.setIfInBounds_toArray, List.set_cons_zero, List.set_cons_succ]
            refine wpAnyH_take (i := 18) (oi := ⟨some 43, _, _, _, _, _⟩) (v := ?_) rfl (by kernel_rfl) (by kernel_rfl) (by kernel_rfl) (fun _ _ _ h => h) (Or.inl ⟨by rfl, ?_⟩) (by assumption) ?_
            rotate_left 1
            · (intro w hSw; (try dsimp only at hSw); go_simp) <;> (with_reducible rfl)
            try simp only [Act.put, List.setIfInBounds_toArray, List.set_cons_zero, List.set_cons_succ]
            refine wpAnyH_ready (rs := [19]) (by kernel_rfl) (by simp) ?_
            refine AllReadyH.cons (o := ⟨none, _, _, _, _, _⟩) rfl (fun K hK => ?_) AllReadyH.nil
            have cX := TC.out _ HF6.out
            go_simp
            clear hHeld cX
            refine hK.out _ _ trivial (fun hHeld => ?_)
            clear hK K
            try simp only [Act.put, List.setIfInBounds_toArray, List.set_cons_zero, List.set_cons_succ]
            refine wpAnyH_done (by kernel_rfl) ?_ _
            go_wp2_with fail
            go_ret2
            exact TAIL.out _ _ _ HF6.out HO6.out
          · have cX := TC.out _ HF2.out
            have cY := TC.out _ (Fr.refl _ w1)
            go_simp
            clear hHeld cX cY
            refine hK.out _ _ trivial (fun hHeld => ?_)
            clear hK K
            try simp only [Act.put, List.setIfInBounds_toArray, List.set_cons_zero, List.set_cons_succ]
            refine wpAnyH_take (i := 15) (oi := ⟨some 40, _, _, _, _, _⟩) (v := ?_) rfl (by kernel_rfl) (by kernel_rfl) (by kernel_rfl) (fun _ _ _ h => h) (Or.inl ⟨by rfl, ?_⟩) (by assumption) ?_
            rotate_left 1
            · (intro w hSw; (try dsimp only at hSw); go_simp) <;> (with_reducible rfl)
            try simp only [Act.put, List.setIfInBounds_toArray, List.set_cons_zero, List.set_cons_succ]
            refine wpAnyH_ready (rs := [8]) (by kernel_rfl) (by simp) ?_
            refine AllReadyH.cons (o := ⟨some 33, _, _, _, _, _⟩) rfl (fun K hK => ?_) AllReadyH.nil
            refine step_appW rfl _ _ 28 rfl w1.heap.size 43 i0 _ 2 24 Try.underlying28 hi hz0 hz1 hz2 rfl (by decide) (.slice (some ⟨q, 0, none⟩) 0 0) 0 [] rfl HO2.out A _ i (itsS (xs.take i)) rfl HLT.out HR2.out (itsS_one _) (fun e => by have := HAC.out e; omega) (by unfold maxLen; have := HN5.out; omega) (by have := HN5.out; omega) HF2.out.size ?_
            intro v3 w3 ho3 hg3 _
            try rw [List.nil_append, Nat.zero_add] at ho3
            obtain ⟨A3, c3, rfl, _, _⟩ := own_form ho3
            have HF3 : Hid (Fr NoBlk w1 w3) := grown_no HF2.out HO2.out hg3
            have HO3 := Lib.hid ho3
            have HRX3 : Hid (Rd w3 (A.map fun x => x.add ((i + 1) * 2)) (itsS (xs.drop (i + 1)))) := HRX.out.nofr HF3.out
            clear ho3 hg3 hHeld
            refine hK.out _ _ trivial (fun hHeld => ?_)
            clear hK K
            try simp only [Act.put, List.setIfInBounds_toArray, List.set_cons_zero, List.set_cons_succ]
            refine wpAnyH_ready (rs := [16]) (by kernel_rfl) (by simp) ?_
            refine AllReadyH.cons (o := ⟨some 41, _, _, _, _, _⟩) rfl (fun K hK => ?_) AllReadyH.nil
            refine step_appW rfl _ _ 28 rfl w1.heap.size 43 i0 _ 2 24 Try.underlying28 hi hz0 hz1 hz2 rfl (by decide) (.slice A3 i c3) i (itsS (xs.take i)) rfl HO3.out (A.map fun x => x.add ((i + 1) * 2)) (c - (i + 1)) (n - (i + 1)) (itsS (xs.drop (i + 1))) rfl HLD.out HRX3.out (itsS_one _) (fun e => by have := HAC.out (by cases A with | none => rfl | some a => cases e); omega) (by unfold maxLen; have := HN5.out; omega) (by have := HN5.out; omega) HF3.out.size ?_
            intro v6 w6 ho6 hg6 _
            obtain ⟨A6, c6, rfl, _, _⟩ := own_form ho6
            have HF6 : Hid (Fr NoBlk w1 w6) := grown_no HF3.out HO3.out hg6
            have HO6 := Lib.hid ho6
            have f6 := (H1.out.nofr HF6.out).bk.free 0
            clear ho6 hg6 hHeld
            refine hK.out _ _ trivial (fun hHeld => ?_)
            clear hK K
            try simp only [Act.put, List.setIfInBounds_toArray, List.set_cons_zero, List.set_cons_succ]
            refine wpAnyH_take (i := 17) (oi := ⟨some 42, _, _, _, _, _⟩) (v := ?_) rfl (by kernel_rfl) (by kernel_rfl) (by kernel_rfl) (fun _ _ _ h => h) (Or.inl ⟨by rfl, ?_⟩) (by assumption) ?_
            rotate_left 1
            · (intro w hSw; (try dsimp only at hSw); go_simp) <;> (with_reducible rfl)
            try simp only [Act.put, List.setIfInBounds_toArray, List.set_cons_zero, List.set_cons_succ]
            refine wpAnyH_take (i := 18) (oi := ⟨some 43, _, _, _, _, _⟩) (v := ?_) rfl (by kernel_rfl) (by kernel_rfl) (by kernel_rfl) (fun _ _ _ h => h) (Or.inl ⟨by rfl, ?_⟩) (by assumption) ?_
            rotate_left 1
            · (intro w hSw; (try dsimp only at hSw); go_simp) <;> (with_reducible rfl)
            try simp only [Act.put, List.setIfInBounds_toArray, List.set_cons_zero, List.set_cons_succ]
            refine wpAnyH_ready (rs := [19]) (by kernel_rfl) (by simp) ?_
            refine AllReadyH.cons (o := ⟨none, _, _, _, _, _⟩) rfl (fun K hK => ?_) AllReadyH.nil
            have cX := TC.out _ HF6.out
            go_simp
            clear hHeld cX
            refine hK.out _ _ trivial (fun hHeld => ?_)
            clear hK K
            try simp only [Act.put, List.setIfInBounds_toArray, List.set_cons_zero, List.set_cons_succ]
            refine wpAnyH_done (by kernel_rfl) ?_ _
            go_wp2_with fail
            go_ret2
            exact TAIL.out _ _ _ HF6.out HO6.out
        · have cX := TC.out _ HF2.out
          have cY := TC.out _ (Fr.refl _ w1)
          go_simp
          clear hHeld cX cY
          refine hK.out _ _ trivial (fun hHeld => ?_)
          clear hK K
          try simp only [Act.put, List.setIfInBounds_toArray, List.set_cons_zero, List.set_cons_succ]
          refine wpAnyH_take (i := 15) (oi := ⟨some 40, _, _, _, _, _⟩) (v := ?_) rfl (by kernel_rfl) (by kernel_rfl) (by kernel_rfl) (fun _ _ _ h => h) (Or.inl ⟨by rfl, ?_⟩) (by assumption) ?_
          rotate_left 1
          · (intro w hSw; (try dsimp only at hSw); go_simp) <;> (with_reducible rfl)
          try simp only [Act.put, List.setIfInBounds_toArray, List.set_cons_zero, List.set_cons_succ]
          refine wpAnyH_ready (rs := [5]) (by kernel_rfl) (by simp) ?_
          refine AllReadyH.cons (o := ⟨some 30, _, _, _, _, _⟩) rfl (fun K hK => ?_) AllReadyH.nil
          have cX := TC.out _ HF2.out
          have cY := TC.out _ (Fr.refl _ w1)
          go_simp
          clear hHeld cX cY
          refine hK.out _ _ trivial (fun hHeld => ?_)
          clear hK K
          try simp only [Act.put, List.setIfInBounds_toArray, List.set_cons_zero, List.set_cons_succ]
          refine wpAnyH_take (i := 7) (oi := ⟨some 32, _, _, _, _, _⟩) (v := ?_) rfl (by kernel_rfl) (by kernel_rfl) (by kernel_rfl) (fun _ _ _ h => h) (Or.inl ⟨by rfl, ?_⟩) (by assumption) ?_
          rotate_left 1
          · (intro w hSw; (try dsimp only at hSw); go_simp) <;> (with_reducible rfl)
          try simp only [Act.put, List.setIfInBounds_toArray, List.set_cons_zero, List.set_cons_succ]
          refine wpAnyH_ready (rs := [8]) (by kernel_rfl) (by simp) ?_
          refine AllReadyH.cons (o := ⟨some 33, _, _, _, _, _⟩) rfl (fun K hK => ?_) AllReadyH.nil
          refine step_appW rfl _ _ 28 rfl w1.heap.size 43 i0 _ 2 24 Try.underlying28 hi hz0 hz1 hz2 rfl (by decide) (.slice (some ⟨q, 0, none⟩) 0 0) 0 [] rfl HO2.out A _ i (itsS (xs.take i)) rfl HLT.out HR2.out (itsS_one _) (fun e => by have := HAC.out e; omega) (by unfold maxLen; have := HN5.out; omega) (by have := HN5.out; omega) HF2.out.size ?_
          intro v3 w3 ho3 hg3 _
          try rw [List.nil_append, Nat.zero_add] at ho3
          obtain ⟨A3, c3, rfl, _, _⟩ := own_form ho3
          have HF3 : Hid (Fr NoBlk w1 w3) := grown_no HF2.out HO2.out hg3
          have HO3 := Lib.hid ho3
          have HRX3 : Hid (Rd w3 (A.map fun x => x.add ((i + 1) * 2)) (itsS (xs.drop (i + 1)))) := HRX.out.nofr HF3.out
          clear ho3 hg3 hHeld
          refine hK.out _ _ trivial (fun hHeld => ?_)
          clear hK K
          try simp only [Act.put, List.setIfInBounds_toArray, List.set_cons_zero, List.set_cons_succ]
          refine wpAnyH_ready (rs := [16]) (by kernel_rfl) (by simp) ?_
          refine AllReadyH.cons (o := ⟨some 41, _, _, _, _, _⟩) rfl (fun K hK => ?_) AllReadyH.nil
          refine step_appW rfl _ _ 28 rfl w1.heap.size 43 i0 _ 2 24 Try.underlying28 hi hz0 hz1 hz2 rfl (by decide) (.slice A3 i c3) i (itsS (xs.take i)) rfl HO3.out (A.map fun x => x.add ((i + 1) * 2)) (c - (i + 1)) (n - (i + 1)) (itsS (xs.drop (i + 1))) rfl HLD.out HRX3.out (itsS_one _) (fun e => by have := HAC.out (by cases A with | none => rfl | some a => cases e); omega) (by unfold maxLen; have := HN5.out; omega) (by have := HN5.out; omega) HF3.out.size ?_
          intro v6 w6 ho6 hg6 _
          obtain ⟨A6, c6, rfl, _, _⟩ := own_form ho6
          have HF6 : Hid (Fr NoBlk w1 w6) := grown_no HF3.out HO3.out hg6
          have HO6 := Lib.hid ho6
          have f6 := (H1.out.nofr HF6.out).bk.free 0
          clear ho6 hg6 hHeld
          refine hK.out _ _ trivial (fun hHeld => ?_)
          clear hK K
          try simp only [Act.put, List.setIfInBounds_toArray, List.set_cons_zero, List.set_cons_succ]
          refine wpAnyH_take (i := 17) (oi := ⟨some 42, _, _, _, _, _⟩) (v := ?_) rfl (by kernel_rfl) (by kernel_rfl) (by kernel_rfl) (fun _ _ _ h => h) (Or.inl ⟨by rfl, ?_⟩) (by assumption) ?_
          rotate_left 1
          · (intro w hSw; (try dsimp only at hSw); go_simp) <;> (with_reducible rfl)
          try simp only [Act.put, List.setIfInBounds_toArray, List.set_cons_zero, List.set_cons_succ]
          refine wpAnyH_take (i := 18) (oi := ⟨some 43, _, _, _, _, _⟩) (v := ?_) rfl (by kernel_rfl) (by kernel_rfl) (by kernel_rfl) (fun _ _ _ h => h) (Or.inl ⟨by rfl, ?_⟩) (by assumption) ?_
          rotate_left 1
          · (intro w hSw; (try dsimp only at hSw); go_simp) <;> (with_reducible rfl)
          try simp only [Act.put, List.setIfInBounds_toArray, List.set_cons_zero, List.set_cons_succ]
          refine wpAnyH_ready (rs := [19]) (by kernel_rfl) (by simp) ?_
          refine AllReadyH.cons (o := ⟨none, _, _, _, _, _⟩) rfl (fun K hK => ?_) AllReadyH.nil
          have cX := TC.out _ HF6.out
          go_simp
          clear hHeld cX
          refine hK.out _ _ trivial (fun hHeld => ?_)
          clear hK K
          try simp only [Act.put, List.setIfInBounds_toArray, List.set_cons_zero, List.set_cons_succ]
          refine wpAnyH_done (by kernel_rfl) ?_ _
          go_wp2_with fail
          go_ret2
          exact TAIL.out _ _ _ HF6.out HO6.out
      · have cX := TC.out _ ((Fr.refl _ _).drew)
        have cY := TC.out _ (Fr.refl _ w1)
        go_simp
        clear hHeld cX cY
        refine hK.out _ _ trivial (fun hHeld => ?_)
        clear hK K
        try simp only [Act.put, List.setIfInBounds_toArray, List.set_cons_zero, List.set_cons_succ]
        refine wpAnyH_take (i := 7) (oi := ⟨some 32, _, _, _, _, _⟩) (v := ?_) rfl (by kernel_rfl) (by kernel_rfl) (by kernel_rfl) (fun _ _ _ h => h) (Or.inl ⟨by rfl, ?_⟩) (by assumption) ?_
        rotate_left 1
        · (intro w hSw; (try dsimp only at hSw); go_simp) <;> (with_reducible rfl)
        try simp only [Act.put, List.setIfInBounds_toArray, List.set_cons_zero, List.set_cons_succ]
        refine wpAnyH_ready (rs := [1, 12]) (by kernel_rfl) (by simp) ?_
        refine AllReadyH.cons (o := ⟨some 26, _, _, _, _, _⟩) rfl (fun K hK => ?_) (AllReadyH.cons (o := ⟨some 37, _, _, _, _, _⟩) rfl (fun K hK => ?_) AllReadyH.nil)
        · go_simp
          clear hHeld
          have hq := HQ.out
          have hw2 := HW2.out
          rw [← hw2, ← hq]
          clear hw2 hq
          refine hK.out _ _ trivial (fun hHeld => ?_)
          clear hK K
          try simp only [Act.put, List.setIfInBounds_toArray, List.set_cons_zero, List.set_cons_succ]
          refine wpAnyH_ready (rs := [8, 12]) (by kernel_rfl) (by simp) ?_
          refine AllReadyH.cons (o := ⟨some 33, _, _, _, _, _⟩) rfl (fun K hK => ?_) (AllReadyH.cons (o := ⟨some 37, _, _, _, _, _⟩) rfl (fun K hK => ?_) AllReadyH.nil)
          · refine step_appW rfl _ _ 28 rfl w1.heap.size 43 i0 _ 2 24 Try.underlying28 hi hz0 hz1 hz2 rfl (by decide) (.slice (some ⟨q, 0, none⟩) 0 0) 0 [] rfl HO2.out A _ i (itsS (xs.take i)) rfl HLT.out HR2.out (itsS_one _) (fun e => by have := HAC.out e; omega) (by unfold maxLen; have := HN5.out; omega) (by have := HN5.out; omega) HF2.out.size ?_
            intro v3 w3 ho3 hg3 _
            try rw [List.nil_append, Nat.zero_add] at ho3
            obtain ⟨A3, c3, rfl, _, _⟩ := own_form ho3
            have HF3 : Hid (Fr NoBlk w1 w3) := grown_no HF2.out HO2.out hg3
            have HO3 := Lib.hid ho3
            have HRX3 : Hid (Rd w3 (A.map fun x => x.add ((i + 1) * 2)) (itsS (xs.drop (i + 1)))) := HRX.out.nofr HF3.out
            clear ho3 hg3 hHeld
            refine hK.out _ _ trivial (fun hHeld => ?_)
            clear hK K
            try simp only [Act.put, List.setIfInBounds_toArray, List.set_cons_zero, List.set_cons_succ]
            refine wpAnyH_ready (rs := [12]) (by kernel_rfl) (by simp) ?_
            refine AllReadyH.cons (o := ⟨some 37, _, _, _, _, _⟩) rfl (fun K hK => ?_) AllReadyH.nil
            have cX := TC.out _ HF3.out
            have cY := TC.out _ (Fr.refl _ w1)
            go_simp
            clear hHeld cX cY
            refine hK.out _ _ trivial (fun hHeld => ?_)
            clear hK K
            try simp only [Act.put, List.setIfInBounds_toArray, List.set_cons_zero, List.set_cons_succ]
            refine wpAnyH_take (i := 15) (oi := ⟨some 40, _, _, _, _, _⟩) (v := ?_) rfl (by kernel_rfl) (by kernel_rfl) (by kernel_rfl) (fun _ _ _ h => h) (Or.inl ⟨by rfl, ?_⟩) (by assumption) ?_
            rotate_left 1
            · (intro w hSw; (try dsimp only at hSw); go_simp) <;> (with_reducible rfl)
            try simp only [Act.put, List.setIfInBounds_toArray, List.set_cons_zero, List.set_cons_succ]
            refine wpAnyH_ready (rs := [16]) (by kernel_rfl) (by simp) ?_
            refine AllReadyH.cons (o := ⟨some 41, _, _, _, _, _⟩) rfl (fun K hK => ?_) AllReadyH.nil
            refine step_appW rfl _ _ 28 rfl w1.heap.size 43 i0 _ 2 24 Try.underlying28 hi hz0 hz1 hz2 rfl (by decide) (.slice A3 i c3) i (itsS (xs.take i)) rfl HO3.out (A.map fun x => x.add ((i + 1) * 2)) (c - (i + 1)) (n - (i + 1)) (itsS (xs.drop (i + 1))) rfl HLD.out HRX3.out (itsS_one _) (fun e => by have := HAC.out (by cases A with | none => rfl | some a => cases e); omega) (by unfold maxLen; have := HN5.out; omega) (by have := HN5.out; omega) HF3.out.size ?_
            intro v6 w6 ho6 hg6 _
            obtain ⟨A6, c6, rfl, _, _⟩ := own_form ho6
            have HF6 : Hid (Fr NoBlk w1 w6) := grown_no HF3.out HO3.out hg6
            have HO6 := Lib.hid ho6
            have f6 := (H1.out.nofr HF6.out).bk.free 0
            clear ho6 hg6 hHeld
            refine hK.out _ _ trivial (fun hHeld => ?_)
            clear hK K
            try simp only [Act.put, List.setIfInBounds_toArray, List.set_cons_zero, List.set_cons_succ]
            refine wpAnyH_take (i := 17) (oi := ⟨some 42, _, _, _, _, _⟩) (v := ?_) rfl (by kernel_rfl) (by kernel_rfl) (by kernel_rfl) (fun _ _ _ h => h) (Or.inl ⟨by rfl, ?_⟩) (by assumption) ?_
            rotate_left 1
            · (intro w hSw; (try dsimp only at hSw); go_simp) <;> (with_reducible rfl)
            try simp only [Act.put, List.setIfInBounds_toArray, List.set_cons_zero, List.set_cons_succ]
            refine wpAnyH_take (i := 18) (oi := ⟨some 43, _, _, _, _, _⟩) (v := ?_) rfl (by kernel_rfl) (by kernel_rfl) (by kernel_rfl) (fun _ _ _ h => h) (Or.inl ⟨by rfl, ?_⟩) (by assumption) ?_
            rotate_left 1
            · (intro w hSw; (try dsimp only at hSw); go_simp) <;> (with_reducible rfl)
            try simp only [Act.put, List.setIfInBounds_toArray, List.set_cons_zero, List.set_cons_succ]
            refine wpAnyH_ready (rs := [19]) (by kernel_rfl) (by simp) ?_
            refine AllReadyH.cons (o := ⟨none, _, _, _, _, _⟩) rfl (fun K hK => ?_) AllReadyH.nil
            have cX := TC.out _ HF6.out
            go_simp
            clear hHeld cX
            refine hK.out _ _ trivial (fun hHeld => ?_)
            clear hK K
            try simp only [Act.put, List.setIfInBounds_toArray, List.set_cons_zero, List.set_cons_succ]
            refine wpAnyH_done (by kernel_rfl) ?_ _
            go_wp2_with fail
            go_ret2
            exact TAIL.out _ _ _ HF6.out HO6.out
          · have cX := TC.out _ HF2.out
            have cY := TC.out _ (Fr.refl _ w1)
            go_simp
            clear hHeld cX cY
            refine hK.out _ _ trivial (fun hHeld => ?_)
            clear hK K
            try simp only [Act.put, List.setIfInBounds_toArray, List.set_cons_zero, List.set_cons_succ]
            refine wpAnyH_take (i := 15) (oi := ⟨some 40, _, _, _, _, _⟩) (v := ?_) rfl (by kernel_rfl) (by kernel_rfl) (by kernel_rfl) (fun _ _ _ h => h) (Or.inl ⟨by rfl, ?_⟩) (by assumption) ?_
            rotate_left 1
            · (intro w hSw; (try dsimp only at hSw); go_simp) <;> (with_reducible rfl)
            try simp only [Act.put, List.setIfInBounds_toArray, List.set_cons_zero, List.set_cons_succ]
            refine wpAnyH_ready (rs := [8]) (by kernel_rfl) (by simp) ?_
            refine AllReadyH.cons (o := ⟨some 33, _, _, _, _, _⟩) rfl (fun K hK => ?_) AllReadyH.nil
            refine step_appW rfl _ _ 28 rfl w1.heap.size 43 i0 _ 2 24 Try.underlying28 hi hz0 hz1 hz2 rfl (by decide) (.slice (some ⟨q, 0, none⟩) 0 0) 0 [] rfl HO2.out A _ i (itsS (xs.take i)) rfl HLT.out HR2.out (itsS_one _) (fun e => by have := HAC.out e; omega) (by unfold maxLen; have := HN5.out; omega) (by have := HN5.out; omega) HF2.out.size ?_
            intro v3 w3 ho3 hg3 _
            try rw [List.nil_append, Nat.zero_add] at ho3
            obtain ⟨A3, c3, rfl, _, _⟩ := own_form ho3
            have HF3 : Hid (Fr NoBlk w1 w3) := grown_no HF2.out HO2.out hg3
            have HO3 := Lib.hid ho3
            have HRX3 : Hid (Rd w3 (A.map fun x => x.add ((i + 1) * 2)) (itsS (xs.drop (i + 1)))) := HRX.out.nofr HF3.out
            clear ho3 hg3 hHeld
            refine hK.out _ _ trivial (fun hHeld => ?_)
            clear hK K
            try simp only [Act.put, List.setIfInBounds_toArray, List.set_cons_zero, List.set_cons_succ]
            refine wpAnyH_ready (rs := [16]) (by kernel_rfl) (by simp) ?_
            refine AllReadyH.cons (o := ⟨some 41, _, _, _, _, _⟩) rfl (fun K hK => ?_) AllReadyH.nil
            refine step_appW rfl _ _ 28 rfl w1.heap.size 43 i0 _ 2 24 Try.underlying28 hi hz0 hz1 hz2 rfl (by decide) (.slice A3 i c3) i (itsS (xs.take i)) rfl HO3.out (A.map fun x => x.add ((i + 1) * 2)) (c - (i + 1)) (n - (i + 1)) (itsS (xs.drop (i + 1))) rfl HLD.out HRX3.out (itsS_one _) (fun e => by have := HAC.out (by cases A with | none => rfl | some a => cases e); omega) (by unfold maxLen; have := HN5.out; omega) (by have := HN5.out; omega) HF3.out.size ?_
            intro v6 w6 ho6 hg6 _
            obtain ⟨A6, c6, rfl, _, _⟩ := own_form ho6
            have HF6 : Hid (Fr NoBlk w1 w6) := grown_no HF3.out HO3.out hg6
            have HO6 := Lib.hid ho6
            have f6 := (H1.out.nofr HF6.out).bk.free 0
            clear ho6 hg6 hHeld
            refine hK.out _ _ trivial (fun hHeld => ?_)
            clear hK K
            try simp only [Act.put, List.setIfInBounds_toArray, List.set_cons_zero, List.set_cons_succ]
            refine wpAnyH_take (i := 17) (oi := ⟨some 42, _, _, _, _, _⟩) (v := ?_) rfl (by kernel_rfl) (by kernel_rfl) (by kernel_rfl) (fun _ _ _ h => h) (Or.inl ⟨by rfl, ?_⟩) (by assumption) ?_
            rotate_left 1
            · (intro w hSw; (try dsimp only at hSw); go_simp) <;> (with_reducible rfl)
            try simp only [Act.put, List.setIfInBounds_toArray, List.set_cons_zero, List.set_cons_succ]
            refine wpAnyH_take (i := 18) (oi := ⟨some 43, _, _, _, _, _⟩) (v := ?_) rfl (by kernel_rfl) (by kernel_rfl) (by kernel_rfl) (fun _ _ _ h => h) (Or.inl ⟨by rfl, ?_⟩) (by assumption) ?_
            rotate_left 1
            · (intro w hSw; (try dsimp only at hSw); go_simp) <;> (with_reducible rfl)
            try simp only [Act.put, List.setIfInBounds_toArray, List.set_cons_zero, List.set_cons_succ]
            refine wpAnyH_ready (rs := [19]) (by kernel_rfl) (by simp) ?_
            refine AllReadyH.cons (o := ⟨none, _, _, _, _, _⟩) rfl (fun K hK => ?_) AllReadyH.nil
            have cX := TC.out _ HF6.out
            go_simp
            clear hHeld cX
            refine hK.out _ _ trivial (fun hHeld => ?_)
            clear hK K
            try simp only [Act.put, List.setIfInBounds_toArray, List.set_cons_zero, List.set_cons_succ]
            refine wpAnyH_done (by kernel_rfl) ?_ _
            go_wp2_with fail
            go_ret2
            exact TAIL.out _ _ _ HF6.out HO6.out
        · have cX := TC.out _ ((Fr.refl _ _).drew)
          have cY := TC.out _ (Fr.refl _ w1)
          go_simp
          clear hHeld cX cY
          refine hK.out _ _ trivial (fun hHeld => ?_)
          clear hK K
          try simp only [Act.put, List.setIfInBounds_toArray, List.set_cons_zero, List.set_cons_succ]
          refine wpAnyH_take (i := 15) (oi := ⟨some 40, _, _, _, _, _⟩) (v := ?_) rfl (by kernel_rfl) (by kernel_rfl) (by kernel_rfl) (fun _ _ _ h => h) (Or.inl ⟨by rfl, ?_⟩) (by assumption) ?_
          rotate_left 1
          · (intro w hSw; (try dsimp only at hSw); go_simp) <;> (with_reducible rfl)
          try simp only [Act.put, List.setIfInBounds_toArray, List.set_cons_zero, List.set_cons_succ]
          refine wpAnyH_ready (rs := [1]) (by kernel_rfl) (by simp) ?_
          refine AllReadyH.cons (o := ⟨some 26, _, _, _, _, _⟩) rfl (fun K hK => ?_) AllReadyH.nil
          go_simp
          clear hHeld
          have hq := HQ.out
          have hw2 := HW2.out
          rw [← hw2, ← hq]
          clear hw2 hq
          refine hK.out _ _ trivial (fun hHeld => ?_)
          clear hK K
          try simp only [Act.put, List.setIfInBounds_toArray, List.set_cons_zero, List.set_cons_succ]
          refine wpAnyH_ready (rs := [8]) (by kernel_rfl) (by simp) ?_
          refine AllReadyH.cons (o := ⟨some 33, _, _, _, _, _⟩) rfl (fun K hK => ?_) AllReadyH.nil
          refine step_appW rfl _ _ 28 rfl w1.heap.size 43 i0 _ 2 24 Try.underlying28 hi hz0 hz1 hz2 rfl (by decide) (.slice (some ⟨q, 0, none⟩) 0 0) 0 [] rfl HO2.out A _ i (itsS (xs.take i)) rfl HLT.out HR2.out (itsS_one _) (fun e => by have := HAC.out e; omega) (by unfold maxLen; have := HN5.out; omega) (by have := HN5.out; omega) HF2.out.size ?_
          intro v3 w3 ho3 hg3 _
          try rw [List.nil_append, Nat.zero_add] at ho3
          obtain ⟨A3, c3, rfl, _, _⟩ := own_form ho3
          have HF3 : Hid (Fr NoBlk w1 w3) := grown_no HF2.out HO2.out hg3
          have HO3 := Lib.hid ho3
          have HRX3 : Hid (Rd w3 (A.map fun x => x.add ((i + 1) * 2)) (itsS (xs.drop (i + 1)))) := HRX.out.nofr HF3.out
          clear ho3 hg3 hHeld
          refine hK.out _ _ trivial (fun hHeld => ?_)
          clear hK K
          try simp only [Act.put, List.setIfInBounds_toArray, List.set_cons_zero, List.set_cons_succ]
          refine wpAnyH_ready (rs := [16]) (by kernel_rfl) (by simp) ?_
          refine AllReadyH.cons (o := ⟨some 41, _, _, _, _, _⟩) rfl (fun K hK => ?_) AllReadyH.nil
          refine step_appW rfl _ _ 28 rfl w1.heap.size 43 i0 _ 2 24 Try.underlying28 hi hz0 hz1 hz2 rfl (by decide) (.slice A3 i c3) i (itsS (xs.take i)) rfl HO3.out (A.map fun x => x.add ((i + 1) * 2)) (c - (i + 1)) (n - (i + 1)) (itsS (xs.drop (i + 1))) rfl HLD.out HRX3.out (itsS_one _) (fun e => by have := HAC.out (by cases A with | none => rfl | some a => cases e); omega) (by unfold maxLen; have := HN5.out; omega) (by have := HN5.out; omega) HF3.out.size ?_
          intro v6 w6 ho6 hg6 _
          obtain ⟨A6, c6, rfl, _, _⟩ := own_form ho6
          have HF6 : Hid (Fr NoBlk w1 w6) := grown_no HF3.out HO3.out hg6
          have HO6 := Lib.hid ho6
          have f6 := (H1.out.nofr HF6.out).bk.free 0
          clear ho6 hg6 hHeld
          refine hK.out _ _ trivial (fun hHeld => ?_)
          clear hK K
          try simp only [Act.put, List.setIfInBounds_toArray, List.set_cons_zero, List.set_cons_succ]
          refine wpAnyH_take (i := 17) (oi := ⟨some 42, _, _, _, _, _⟩) (v := ?_) rfl (by kernel_rfl) (by kernel_rfl) (by kernel_rfl) (fun _ _ _ h => h) (Or.inl ⟨by rfl, ?_⟩) (by assumption) ?_
          rotate_left 1
          · (intro w hSw; (try dsimp only at hSw); go_simp) <;> (with_reducible rfl)
          try simp only [Act.put, List.setIfInBounds_toArray, List.set_cons_zero, List.set_cons_succ]
          refine wpAnyH_take (i := 18) (oi := ⟨some 43, _, _, _, _, _⟩) (v := ?_) rfl (by kernel_rfl) (by kernel_rfl) (by kernel_rfl) (fun _ _ _ h => h) (Or.inl ⟨by rfl, ?_⟩) (by assumption) ?_
          rotate_left 1
          · (intro w hSw; (try dsimp only at hSw); go_simp) <;> (with_reducible rfl)
          try simp only [Act.put, List.setIfInBounds_toArray, List.set_cons_zero, List.set_cons_succ]
          refine wpAnyH_ready (rs := [19]) (by kernel_rfl) (by simp) ?_
          refine AllReadyH.cons (o := ⟨none, _, _, _, _, _⟩) rfl (fun K hK => ?_) AllReadyH.nil
          have cX := TC.out _ HF6.out
          go_simp
          clear hHeld cX
          refine hK.out _ _ trivial (fun hHeld => ?_)
          clear hK K
          try simp only [Act.put, List.setIfInBounds_toArray, List.set_cons_zero, List.set_cons_succ]
          refine wpAnyH_done (by kernel_rfl) ?_ _
          go_wp2_with fail
          go_ret2
          exact TAIL.out _ _ _ HF6.out HO6.out
      · have cX := TC.out _ ((Fr.refl _ _).drew)
        have cY := TC.out _ (Fr.refl _ w1)
        go_simp
        clear hHeld cX cY
        refine hK.out _ _ trivial (fun hHeld => ?_)
        clear hK K
        try simp only [Act.put, List.setIfInBounds_toArray, List.set_cons_zero, List.set_cons_succ]
        refine wpAnyH_take (i := 15) (oi := ⟨some 40, _, _, _, _, _⟩) (v := ?_) rfl (by kernel_rfl) (by kernel_rfl) (by kernel_rfl) (fun _ _ _ h => h) (Or.inl ⟨by rfl, ?_⟩) (by assumption) ?_
        rotate_left 1
        · (intro w hSw; (try dsimp only at hSw); go_simp) <;> (with_reducible rfl)
        try simp only [Act.put, List.setIfInBounds_toArray, List.set_cons_zero, List.set_cons_succ]
        refine wpAnyH_ready (rs := [1, 5]) (by kernel_rfl) (by simp) ?_
        refine AllReadyH.cons (o := ⟨some 26, _, _, _, _, _⟩) rfl (fun K hK => ?_) (AllReadyH.cons (o := ⟨some 30, _, _, _, _, _⟩) rfl (fun K hK => ?_) AllReadyH.nil)
        · go_simp
          clear hHeld
          have hq := HQ.out
          have hw2 := HW2.out
          rw [← hw2, ← hq]
          clear hw2 hq
          refine hK.out _ _ trivial (fun hHeld => ?_)
          clear hK K
          try simp only [Act.put, List.setIfInBounds_toArray, List.set_cons_zero, List.set_cons_succ]
          refine wpAnyH_ready (rs := [5]) (by kernel_rfl) (by simp) ?_
          refine AllReadyH.cons (o := ⟨some 30, _, _, _, _, _⟩) rfl (fun K hK => ?_) AllReadyH.nil
          have cX := TC.out _ HF2.out
          have cY := TC.out _ (Fr.refl _ w1)
          go_simp
          clear hHeld cX cY
          refine hK.out _ _ trivial (fun hHeld => ?_)
          clear hK K
          try simp only [Act.put, List.setIfInBounds_toArray, List.set_cons_zero, List.set_cons_succ]
          refine wpAnyH_take (i := 7) (oi := ⟨some 32, _, _, _, _, _⟩) (v := ?_) rfl (by kernel_rfl) (by kernel_rfl) (by kernel_rfl) (fun _ _ _ h => h) (Or.inl ⟨by rfl, ?_⟩) (by assumption) ?_
          rotate_left 1
          · (intro w hSw; (try dsimp only at hSw); go_simp) <;> (with_reducible rfl)
          try simp only [Act.put, List.setIfInBounds_toArray, List.set_cons_zero, List.set_cons_succ]
          refine wpAnyH_ready (rs := [8]) (by kernel_rfl) (by simp) ?_
          refine AllReadyH.cons (o := ⟨some 33, _, _, _, _, _⟩) rfl (fun K hK => ?_) AllReadyH.nil
          refine step_appW rfl _ _ 28 rfl w1.heap.size 43 i0 _ 2 24 Try.underlying28 hi hz0 hz1 hz2 rfl (by decide) (.slice (some ⟨q, 0, none⟩) 0 0) 0 [] rfl HO2.out A _ i (itsS (xs.take i)) rfl HLT.out HR2.out (itsS_one _) (fun e => by have := HAC.out e; omega) (by unfold maxLen; have := HN5.out; omega) (by have := HN5.out; omega) HF2.out.size ?_
          intro v3 w3 ho3 hg3 _
          try rw [List.nil_append, Nat.zero_add] at ho3
          obtain ⟨A3, c3, rfl, _, _⟩ := own_form ho3
          have HF3 : Hid (Fr NoBlk w1 w3) := grown_no HF2.out HO2.out hg3
          have HO3 := Lib.hid ho3
          have HRX3 : Hid (Rd w3 (A.map fun x => x.add ((i + 1) * 2)) (itsS (xs.drop (i + 1)))) := HRX.out.nofr HF3.out
          clear ho3 hg3 hHeld
          refine hK.out _ _ trivial (fun hHeld => ?_)
          clear hK K
          try simp only [Act.put, List.setIfInBounds_toArray, List.set_cons_zero, List.set_cons_succ]
          refine wpAnyH_ready (rs := [16]) (by kernel_rfl) (by simp) ?_
          refine AllReadyH.cons (o := ⟨some 41, _, _, _, _, _⟩) rfl (fun K hK => ?_) AllReadyH.nil
          refine step_appW rfl _ _ 28 rfl w1.heap.size 43 i0 _ 2 24 Try.underlying28 hi hz0 hz1 hz2 rfl (by decide) (.slice A3 i c3) i (itsS (xs.take i)) rfl HO3.out (A.map fun x => x.add ((i + 1) * 2)) (c - (i + 1)) (n - (i + 1)) (itsS (xs.drop (i + 1))) rfl HLD.out HRX3.out (itsS_one _) (fun e => by have := HAC.out (by cases A with | none => rfl | some a => cases e); omega) (by unfold maxLen; have := HN5.out; omega) (by have := HN5.out; omega) HF3.out.size ?_
          intro v6 w6 ho6 hg6 _
          obtain ⟨A6, c6, rfl, _, _⟩ := own_form ho6
          have HF6 : Hid (Fr NoBlk w1 w6) := grown_no HF3.out HO3.out hg6
          have HO6 := Lib.hid ho6
          have f6 := (H1.out.nofr HF6.out).bk.free 0
          clear ho6 hg6 hHeld
          refine hK.out _ _ trivial (fun hHeld => ?_)
          clear hK K
          try simp only [Act.put, List.setIfInBounds_toArray, List.set_cons_zero, List.set_cons_succ]
          refine wpAnyH_take (i := 17) (oi := ⟨some 42, _, _, _, _, _⟩) (v := ?_) rfl (by kernel_rfl) (by kernel_rfl) (by kernel_rfl) (fun _ _ _ h => h) (Or.inl ⟨by rfl, ?_⟩) (by assumption) ?_
          rotate_left 1
          · (intro w hSw; (try dsimp only at hSw); go_simp) <;> (with_reducible rfl)
          try simp only [Act.put, List.setIfInBounds_toArray, List.set_cons_zero, List.set_cons_succ]
          refine wpAnyH_take (i := 18) (oi := ⟨some 43, _, _, _, _, _⟩) (v := ?_) rfl (by kernel_rfl) (by kernel_rfl) (by kernel_rfl) (fun _ _ _ h => h) (Or.inl ⟨by rfl, ?_⟩) (by assumption) ?_
          rotate_left 1
          · (intro w hSw; (try dsimp only at hSw); go_simp) <;> (with_reducible rfl)
          try simp only [Act.put, List.setIfInBounds_toArray, List.set_cons_zero, List.set_cons_succ]
          refine wpAnyH_ready (rs := [19]) (by kernel_rfl) (by simp) ?_
          refine AllReadyH.cons (o := ⟨none, _, _, _, _, _⟩) rfl (fun K hK => ?_) AllReadyH.nil
          have cX := TC.out _ HF6.out
          go_simp
          clear hHeld cX
          refine hK.out _ _ trivial (fun hHeld => ?_)
          clear hK K
          try simp only [Act.put, List.setIfInBounds_toArray, List.set_cons_zero, List.set_cons_succ]
          refine wpAnyH_done (by kernel_rfl) ?_ _
          go_wp2_with fail
          go_ret2
          exact TAIL.out _ _ _ HF6.out HO6.out
        · have cX := TC.out _ ((Fr.refl _ _).drew)
          have cY := TC.out _ (Fr.refl _ w1)
          go_simp
          clear hHeld cX cY
          refine hK.out _ _ trivial (fun hHeld => ?_)
          clear hK K
          try simp only [Act.put, List.setIfInBounds_toArray, List.set_cons_zero, List.set_cons_succ]
          refine wpAnyH_take (i := 7) (oi := ⟨some 32, _, _, _, _, _⟩) (v := ?_) rfl (by kernel_rfl) (by kernel_rfl) (by kernel_rfl) (fun _ _ _ h => h) (Or.inl ⟨by rfl, ?_⟩) (by assumption) ?_
          rotate_left 1
          · (intro w hSw; (try dsimp only at hSw); go_simp) <;> (with_reducible rfl)
          try simp only [Act.put, List.setIfInBounds_toArray, List.set_cons_zero, List.set_cons_succ]
          refine wpAnyH_ready (rs := [1]) (by kernel_rfl) (by simp) ?_
          refine AllReadyH.cons (o := ⟨some 26, _, _, _, _, _⟩) rfl (fun K hK => ?_) AllReadyH.nil
          go_simp
          clear hHeld
          have hq := HQ.out
          have hw2 := HW2.out
          rw [← hw2, ← hq]
          clear hw2 hq
          refine hK.out _ _ trivial (fun hHeld => ?_)
          clear hK K
          try simp only [Act.put, List.setIfInBounds_toArray, List.set_cons_zero, List.set_cons_succ]
          refine wpAnyH_ready (rs := [8]) (by kernel_rfl) (by simp) ?_
          refine AllReadyH.cons (o := ⟨some 33, _, _, _, _, _⟩) rfl (fun K hK => ?_) AllReadyH.nil
          refine step_appW rfl _ _ 28 rfl w1.heap.size 43 i0 _ 2 24 Try.underlying28 hi hz0 hz1 hz2 rfl (by decide) (.slice (some ⟨q, 0, none⟩) 0 0) 0 [] rfl HO2.out A _ i (itsS (xs.take i)) rfl HLT.out HR2.out (itsS_one _) (fun e => by have := HAC.out e; omega) (by unfold maxLen; have := HN5.out; omega) (by have := HN5.out; omega) HF2.out.size ?_
          intro v3 w3 ho3 hg3 _
          try rw [List.nil_append, Nat.zero_add] at ho3
          obtain ⟨A3, c3, rfl, _, _⟩ := own_form ho3
          have HF3 : Hid (Fr NoBlk w1 w3) := grown_no HF2.out HO2.out hg3
          have HO3 := Lib.hid ho3
          have HRX3 : Hid (Rd w3 (A.map fun x => x.add ((i + 1) * 2)) (itsS (xs.drop (i + 1)))) := HRX.out.nofr HF3.out
          clear ho3 hg3 hHeld
          refine hK.out _ _ trivial (fun hHeld => ?_)
          clear hK K
          try simp only [Act.put, List.setIfInBounds_toArray, List.set_cons_zero, List.set_cons_succ]
          refine wpAnyH_ready (rs := [16]) (by kernel_rfl) (by simp) ?_
          refine AllReadyH.cons (o := ⟨some 41, _, _, _, _, _⟩) rfl (fun K hK => ?_) AllReadyH.nil
          refine step_appW rfl _ _ 28 rfl w1.heap.size 43 i0 _ 2 24 Try.underlying28 hi hz0 hz1 hz2 rfl (by decide) (.slice A3 i c3) i (itsS (xs.take i)) rfl HO3.out (A.map fun x => x.add ((i + 1) * 2)) (c - (i + 1)) (n - (i + 1)) (itsS (xs.drop (i + 1))) rfl HLD.out HRX3.out (itsS_one _) (fun e => by have := HAC.out (by cases A with | none => rfl | some a => cases e); omega) (by unfold maxLen; have := HN5.out; omega) (by have := HN5.out; omega) HF3.out.size ?_
          intro v6 w6 ho6 hg6 _
          obtain ⟨A6, c6, rfl, _, _⟩ := own_form ho6
          have HF6 : Hid (Fr NoBlk w1 w6) := grown_no HF3.out HO3.out hg6
          have HO6 := Lib.hid ho6
          have f6 := (H1.out.nofr HF6.out).bk.free 0
          clear ho6 hg6 hHeld
          refine hK.out _ _ trivial (fun hHeld => ?_)
          clear hK K
          try simp only [Act.put, List.setIfInBounds_toArray, List.set_cons_zero, List.set_cons_succ]
          refine wpAnyH_take (i := 17) (oi := ⟨some 42, _, _, _, _, _⟩) (v := ?_) rfl (by kernel_rfl) (by kernel_rfl) (by kernel_rfl) (fun _ _ _ h => h) (Or.inl ⟨by rfl, ?_⟩) (by assumption) ?_
          rotate_left 1
          · (intro w hSw; (try dsimp only at hSw); go_simp) <;> (with_reducible rfl)
          try simp only [Act.put, List.setIfInBounds_toArray, List.set_cons_zero, List.set_cons_succ]
          refine wpAnyH_take (i := 18) (oi := ⟨some 43, _, _, _, _, _⟩) (v := ?_) rfl (by kernel_rfl) (by kernel_rfl) (by kernel_rfl) (fun _ _ _ h => h) (Or.inl ⟨by rfl, ?_⟩) (by assumption) ?_
          rotate_left 1
          · (intro w hSw; (try dsimp only at hSw); go_simp) <;> (with_reducible rfl)
          try simp only [Act.put, List.setIfInBounds_toArray, List.set_cons_zero, List.set_cons_succ]
          refine wpAnyH_ready (rs := [19]) (by kernel_rfl) (by simp) ?_
          refine AllReadyH.cons (o := ⟨none, _, _, _, _, _⟩) rfl (fun K hK => ?_) AllReadyH.nil
          have cX := TC.out _ HF6.out
          go_simp
          clear hHeld cX
          refine hK.out _ _ trivial (fun hHeld => ?_)
          clear hK K
          try simp only [Act.put, List.setIfInBounds_toArray, List.set_cons_zero, List.set_cons_succ]
          refine wpAnyH_done (by kernel_rfl) ?_ _
          go_wp2_with fail
          go_ret2
          exact TAIL.out _ _ _ HF6.out HO6.out
end Go.Proofs.Ytcpgonioobgpoaa
