/- The law's comparison of rows of data. No condition but lengths. -/
import Derived.Test.YtchlafhmoncldaaSamePk
namespace Go.Proofs.Ytchlafhmoncldaa
open Go.RowKit Go.Maps Go.ChangeMaps Go.MapKept Go.WideShapes

/-- a row of rows of bytes that can be read. -/
structure RowRd (w : World) (A : Option Addr) (xs : List Prt) : Prop where
  row : Rd w A (xs.map sl)
  data : ∀ x ∈ xs, Rd w x.1 (cb x.2.2)
  lens : xs.length ≤ 9223372036854775807
theorem RowRd.nofr {w w' : World} {A : Option Addr} {xs : List Prt} (h : RowRd w A xs) (hf : Fr NoBlk w w') : RowRd w' A xs := ⟨h.row.nofr hf, fun x hx => (h.data x hx).nofr hf, h.lens⟩
/-- where one row lies, whatever is made behind it. -/
theorem RowRd.at_ {w : World} {A : Option Addr} {xs : List Prt} (h : RowRd w A xs) {k : Nat} {x : Prt} (hx : xs[k]? = some x) :
    ∃ b o, A = some ⟨b, o, none⟩ ∧ ∀ w', Fr NoBlk w w' → w'.cell? ⟨b, o + k, none⟩ = some (.slice x.1 x.2.2.length x.2.1) ∧ (convert 30 9 (.slice x.1 x.2.2.length x.2.1)).run Try.prog w' = .ok (.string (bstr x.2.2)) w' := by
  have hm : (xs.map sl)[k]? = some (sl x) := by rw [List.getElem?_map, hx]; rfl
  obtain ⟨b, o, e, _⟩ := h.row.at_ hm
  refine ⟨b, o, e, fun w' hf => ?_⟩
  have h' := h.nofr hf
  obtain ⟨b', o', e', hc⟩ := h'.row.at_ hm
  rw [e] at e'
  injection e' with e'
  injection e' with e1 e2
  subst e1 e2
  exact ⟨hc, strBs w' _ _ _ _ rfl (h'.data x (List.mem_of_getElem? hx))⟩

def SameRP (xs ys : List Prt) (e : Ending) : Prop := ∃ d, e = .returned (.bool d) ∧ (d = true ↔ xs.map (·.2.2) = ys.map (·.2.2))
theorem SameRP.no {xs ys : List Prt} (h : ¬ xs.map (·.2.2) = ys.map (·.2.2)) : SameRP xs ys (.returned (.bool false)) := ⟨false, rfl, ⟨fun h => (by cases h), fun k => absurd k h⟩⟩
theorem SameRP.yes {xs ys : List Prt} (h : xs.map (·.2.2) = ys.map (·.2.2)) : SameRP xs ys (.returned (.bool true)) := ⟨true, rfl, ⟨fun _ => h, fun _ => rfl⟩⟩
set_option maxRecDepth 100000 in
set_option maxHeartbeats 8000000 in
theorem sameData_any (w : World) (A B : Option Addr) (c c' : Nat) (xs ys : List Prt) (ha : RowRd w A xs) (hb : RowRd w B ys) :
    Calls Try.prog 16 #[.slice A xs.length c, .slice B ys.length c'] w fun e w' => SameRP xs ys e ∧ Fr NoBlk w w' := by
  have HA := Lib.hid ha
  have HB := Lib.hid hb
  have hla := ha.lens
  clear ha hb
  by_cases hl : xs.length = ys.length
  rotate_left
  · have HNO : Hid (¬ xs.map (·.2.2) = ys.map (·.2.2)) := fun h => hl (by simpa using congrArg List.length h)
    have hb2 : ((xs.length : Int) != (ys.length : Int)) = true := by simp; omega
    clear hl
    go_enter Try.func16, Try.ntmps16
    go_wp2_with fail
    go_ret
    exact ⟨SameRP.no HNO.out, Fr.refl _ _⟩
  obtain ⟨la, hla'⟩ : ∃ la, la = xs.length := ⟨_, rfl⟩
  have hlb' : ys.length = la := by rw [hla', hl]
  have HLN : Hid (xs.length = la ∧ ys.length = la) := ⟨hla'.symm, hlb'⟩
  rw [hlb', ← hla']
  rw [← hla'] at hla
  clear hl hla' hlb'
  go_enter Try.func16, Try.ntmps16
  go_wp2_with fail
  go_loopw [5] (fun s wr => ∃ k : Nat, k ≤ la ∧ s = .int .i64 k ∧ Hid ((xs.map (·.2.2)).take k = (ys.map (·.2.2)).take k) ∧ Hid (Fr NoBlk w wr)) (fun s _ => la - (intOf s).toNat)
  case atStart => exact ⟨0, by omega, rfl, by show _ = _; simp, Fr.refl _ _⟩
  case round =>
    obtain ⟨k, hk, rfl, HT, HFR⟩ := hrel
    by_cases hlt : k < la
    · obtain ⟨x, hx⟩ : ∃ x, xs[k]? = some x := ⟨_, List.getElem?_eq_getElem (by rw [HLN.out.1]; exact hlt)⟩
      obtain ⟨y, hy⟩ : ∃ y, ys[k]? = some y := ⟨_, List.getElem?_eq_getElem (by rw [HLN.out.2]; exact hlt)⟩
      obtain ⟨ba, oa, hAa, hsa⟩ := (HA.out.nofr HFR.out).at_ hx
      obtain ⟨bb, ob, hBb, hsb⟩ := (HB.out.nofr HFR.out).at_ hy
      have HXY : Hid ((xs.map (·.2.2))[k]? = some x.2.2 ∧ (ys.map (·.2.2))[k]? = some y.2.2) := ⟨by rw [List.getElem?_map, hx]; rfl, by rw [List.getElem?_map, hy]; rfl⟩
      have HSK : Hid (∀ w', Fr NoBlk wr w' → w'.cell? ⟨ba, oa + k, none⟩ = some (.slice x.1 x.2.2.length x.2.1) ∧ w'.cell? ⟨bb, ob + k, none⟩ = some (.slice y.1 y.2.2.length y.2.1) ∧
          (convert 30 9 (.slice x.1 x.2.2.length x.2.1)).run Try.prog w' = .ok (.string (bstr x.2.2)) w' ∧ (convert 30 9 (.slice y.1 y.2.2.length y.2.1)).run Try.prog w' = .ok (.string (bstr y.2.2)) w') := fun w' hf => by
        obtain ⟨a0, a5⟩ := hsa w' hf
        obtain ⟨b0, b5⟩ := hsb w' hf
        exact ⟨a0, b0, a5, b5⟩
      rw [hAa, hBb]
      clear hAa hBb hsa hsb hx hy
      by_cases hd : x.2.2 = y.2.2
      rotate_left
      · have HNO : Hid (¬ xs.map (·.2.2) = ys.map (·.2.2)) := fun e => hd (by
          have h1 := HXY.out.1
          rw [e, HXY.out.2] at h1
          injection h1 with h1
          exact h1.symm)
        have g1 : ((bstr x.2.2).toList != (bstr y.2.2).toList) = true := by rw [bstr_toList, bstr_toList]; simp [hd]
        have g2 : ((bstr x.2.2).toList == (bstr y.2.2).toList) = false := by rw [bstr_toList, bstr_toList]; simp [hd]
        clear hd
        go_upto_region 6 with fail
        refine wp_region_held_drew (S := fun w' => Fr NoBlk wr w') (by kernel_rfl) (by exact (Fr.refl NoBlk wr).drew) (fun hHeld => ?_)
        refine wpAnyH_take (i := 0) (oi := ⟨some 17, _, _, _, _, _⟩) (v := ?_) rfl (by kernel_rfl) (by kernel_rfl) (by kernel_rfl) (fun _ _ _ h => h) (Or.inl ⟨by rfl, ?_⟩) (by assumption) ?_
        rotate_left 1
        · (intro w hSw; (try dsimp only at hSw); obtain ⟨s0, t0, sD, tD⟩ := HSK.out _ hSw; go_simp) <;> (with_reducible rfl)
        try simp only [Act.put, List.setIfInBounds_toArray, List.set_cons_zero, List.set_cons_succ]
        refine wpAnyH_take (i := 1) (oi := ⟨some 18, _, _, _, _, _⟩) (v := ?_) rfl (by kernel_rfl) (by kernel_rfl) (by kernel_rfl) (fun _ _ _ h => h) (Or.inl ⟨by rfl, ?_⟩) (by assumption) ?_
        rotate_left 1
        · (intro w hSw; (try dsimp only at hSw); obtain ⟨s0, t0, sD, tD⟩ := HSK.out _ hSw; go_simp) <;> (with_reducible rfl)
        try simp only [Act.put, List.setIfInBounds_toArray, List.set_cons_zero, List.set_cons_succ]
        refine wpAnyH_take (i := 2) (oi := ⟨some 19, _, _, _, _, _⟩) (v := ?_) rfl (by kernel_rfl) (by kernel_rfl) (by kernel_rfl) (fun _ _ _ h => h) (Or.inl ⟨by rfl, ?_⟩) (by assumption) ?_
        rotate_left 1
        · (intro w hSw; (try dsimp only at hSw); obtain ⟨s0, t0, sD, tD⟩ := HSK.out _ hSw; go_simp) <;> (with_reducible rfl)
        try simp only [Act.put, List.setIfInBounds_toArray, List.set_cons_zero, List.set_cons_succ]
        refine wpAnyH_take (i := 3) (oi := ⟨some 20, _, _, _, _, _⟩) (v := ?_) rfl (by kernel_rfl) (by kernel_rfl) (by kernel_rfl) (fun _ _ _ h => h) (Or.inl ⟨by rfl, ?_⟩) (by assumption) ?_
        rotate_left 1
        · (intro w hSw; (try dsimp only at hSw); obtain ⟨s0, t0, sD, tD⟩ := HSK.out _ hSw; go_simp) <;> (with_reducible rfl)
        try simp only [Act.put, List.setIfInBounds_toArray, List.set_cons_zero, List.set_cons_succ]
        refine wpAnyH_take (i := 4) (oi := ⟨some 21, _, _, _, _, _⟩) (v := ?_) rfl (by kernel_rfl) (by kernel_rfl) (by kernel_rfl) (fun _ _ _ h => h) (Or.inl ⟨by rfl, ?_⟩) (by assumption) ?_
        rotate_left 1
        · (intro w hSw; (try dsimp only at hSw); obtain ⟨s0, t0, sD, tD⟩ := HSK.out _ hSw; go_simp) <;> (with_reducible rfl)
        try simp only [Act.put, List.setIfInBounds_toArray, List.set_cons_zero, List.set_cons_succ]
        refine wpAnyH_take (i := 5) (oi := ⟨some 22, _, _, _, _, _⟩) (v := ?_) rfl (by kernel_rfl) (by kernel_rfl) (by kernel_rfl) (fun _ _ _ h => h) (Or.inl ⟨by rfl, ?_⟩) (by assumption) ?_
        rotate_left 1
        · (intro w hSw; (try dsimp only at hSw); obtain ⟨s0, t0, sD, tD⟩ := HSK.out _ hSw; go_simp) <;> (with_reducible rfl)
        try simp only [Act.put, List.setIfInBounds_toArray, List.set_cons_zero, List.set_cons_succ]
        refine wpAnyH_take (i := 6) (oi := ⟨some 23, _, _, _, _, _⟩) (v := ?_) rfl (by kernel_rfl) (by kernel_rfl) (by kernel_rfl) (fun _ _ _ h => h) (Or.inl ⟨by rfl, ?_⟩) (by assumption) ?_
        rotate_left 1
        · (intro w hSw; (try dsimp only at hSw); obtain ⟨s0, t0, sD, tD⟩ := HSK.out _ hSw; go_simp) <;> (with_reducible rfl)
        try simp only [Act.put, List.setIfInBounds_toArray, List.set_cons_zero, List.set_cons_succ]
        refine wpAnyH_take (i := 7) (oi := ⟨some 24, _, _, _, _, _⟩) (v := ?_) rfl (by kernel_rfl) (by kernel_rfl) (by kernel_rfl) (fun _ _ _ h => h) (Or.inl ⟨by rfl, ?_⟩) (by assumption) ?_
        rotate_left 1
        · (intro w hSw; (try dsimp only at hSw); obtain ⟨s0, t0, sD, tD⟩ := HSK.out _ hSw; go_simp) <;> (with_reducible rfl)
        try simp only [Act.put, List.setIfInBounds_toArray, List.set_cons_zero, List.set_cons_succ]
        refine wpAnyH_take (i := 8) (oi := ⟨some 25, _, _, _, _, _⟩) (v := ?_) rfl (by kernel_rfl) (by kernel_rfl) (by kernel_rfl) (fun _ _ _ h => h) (Or.inl ⟨by rfl, ?_⟩) (by assumption) ?_
        rotate_left 1
        · (intro w hSw; (try dsimp only at hSw); obtain ⟨s0, t0, sD, tD⟩ := HSK.out _ hSw; go_simp) <;> (with_reducible rfl)
        try simp only [Act.put, List.setIfInBounds_toArray, List.set_cons_zero, List.set_cons_succ]
        refine wpAnyH_take (i := 9) (oi := ⟨some 26, _, _, _, _, _⟩) (v := ?_) rfl (by kernel_rfl) (by kernel_rfl) (by kernel_rfl) (fun _ _ _ h => h) (Or.inl ⟨by rfl, ?_⟩) (by assumption) ?_
        rotate_left 1
        · (intro w hSw; (try dsimp only at hSw); obtain ⟨s0, t0, sD, tD⟩ := HSK.out _ hSw; go_simp) <;> (with_reducible rfl)
        try simp only [Act.put, List.setIfInBounds_toArray, List.set_cons_zero, List.set_cons_succ]
        refine wpAnyH_take (i := 10) (oi := ⟨some 27, _, _, _, _, _⟩) (v := ?_) rfl (by kernel_rfl) (by kernel_rfl) (by kernel_rfl) (fun _ _ _ h => h) (Or.inl ⟨by rfl, ?_⟩) (by assumption) ?_
        rotate_left 1
        · (intro w hSw; (try dsimp only at hSw); obtain ⟨s0, t0, sD, tD⟩ := HSK.out _ hSw; go_simp) <;> (with_reducible rfl)
        try simp only [Act.put, List.setIfInBounds_toArray, List.set_cons_zero, List.set_cons_succ]
        refine wpAnyH_done (by kernel_rfl) ?_ _
        clear hHeld
        go_wp2_with fail
        go_ret
        exact ⟨SameRP.no HNO.out, by first | exact HFR.out.drewN _ | exact HFR.out.drew⟩
      have g1 : ((bstr x.2.2).toList != (bstr y.2.2).toList) = false := by rw [hd]; simp
      have g2 : ((bstr x.2.2).toList == (bstr y.2.2).toList) = true := by rw [hd]; simp
      have HT1 : Hid ((xs.map (·.2.2)).take (k + 1) = (ys.map (·.2.2)).take (k + 1)) := by
        obtain ⟨hk1, e1⟩ := List.getElem?_eq_some_iff.1 HXY.out.1
        obtain ⟨hk2, e2⟩ := List.getElem?_eq_some_iff.1 HXY.out.2
        show _ = _
        rw [List.take_succ_eq_append_getElem hk1, List.take_succ_eq_append_getElem hk2, HT.out, e1, e2, hd]
      clear hd HXY
      go_upto_region 6 with fail
      refine wp_region_held_drew (S := fun w' => Fr NoBlk wr w') (by kernel_rfl) (by exact (Fr.refl NoBlk wr).drew) (fun hHeld => ?_)
      refine wpAnyH_take (i := 0) (oi := ⟨some 17, _, _, _, _, _⟩) (v := ?_) rfl (by kernel_rfl) (by kernel_rfl) (by kernel_rfl) (fun _ _ _ h => h) (Or.inl ⟨by rfl, ?_⟩) (by assumption) ?_
      rotate_left 1
      · (intro w hSw; (try dsimp only at hSw); obtain ⟨s0, t0, sD, tD⟩ := HSK.out _ hSw; go_simp) <;> (with_reducible rfl)
      try simp only [Act.put, List.setIfInBounds_toArray, List.set_cons_zero, List.set_cons_succ]
      refine wpAnyH_take (i := 1) (oi := ⟨some 18, _, _, _, _, _⟩) (v := ?_) rfl (by kernel_rfl) (by kernel_rfl) (by kernel_rfl) (fun _ _ _ h => h) (Or.inl ⟨by rfl, ?_⟩) (by assumption) ?_
      rotate_left 1
      · (intro w hSw; (try dsimp only at hSw); obtain ⟨s0, t0, sD, tD⟩ := HSK.out _ hSw; go_simp) <;> (with_reducible rfl)
      try simp only [Act.put, List.setIfInBounds_toArray, List.set_cons_zero, List.set_cons_succ]
      refine wpAnyH_take (i := 2) (oi := ⟨some 19, _, _, _, _, _⟩) (v := ?_) rfl (by kernel_rfl) (by kernel_rfl) (by kernel_rfl) (fun _ _ _ h => h) (Or.inl ⟨by rfl, ?_⟩) (by assumption) ?_
      rotate_left 1
      · (intro w hSw; (try dsimp only at hSw); obtain ⟨s0, t0, sD, tD⟩ := HSK.out _ hSw; go_simp) <;> (with_reducible rfl)
      try simp only [Act.put, List.setIfInBounds_toArray, List.set_cons_zero, List.set_cons_succ]
      refine wpAnyH_take (i := 3) (oi := ⟨some 20, _, _, _, _, _⟩) (v := ?_) rfl (by kernel_rfl) (by kernel_rfl) (by kernel_rfl) (fun _ _ _ h => h) (Or.inl ⟨by rfl, ?_⟩) (by assumption) ?_
      rotate_left 1
      · (intro w hSw; (try dsimp only at hSw); obtain ⟨s0, t0, sD, tD⟩ := HSK.out _ hSw; go_simp) <;> (with_reducible rfl)
      try simp only [Act.put, List.setIfInBounds_toArray, List.set_cons_zero, List.set_cons_succ]
      refine wpAnyH_take (i := 4) (oi := ⟨some 21, _, _, _, _, _⟩) (v := ?_) rfl (by kernel_rfl) (by kernel_rfl) (by kernel_rfl) (fun _ _ _ h => h) (Or.inl ⟨by rfl, ?_⟩) (by assumption) ?_
      rotate_left 1
      · (intro w hSw; (try dsimp only at hSw); obtain ⟨s0, t0, sD, tD⟩ := HSK.out _ hSw; go_simp) <;> (with_reducible rfl)
      try simp only [Act.put, List.setIfInBounds_toArray, List.set_cons_zero, List.set_cons_succ]
      refine wpAnyH_take (i := 5) (oi := ⟨some 22, _, _, _, _, _⟩) (v := ?_) rfl (by kernel_rfl) (by kernel_rfl) (by kernel_rfl) (fun _ _ _ h => h) (Or.inl ⟨by rfl, ?_⟩) (by assumption) ?_
      rotate_left 1
      · (intro w hSw; (try dsimp only at hSw); obtain ⟨s0, t0, sD, tD⟩ := HSK.out _ hSw; go_simp) <;> (with_reducible rfl)
      try simp only [Act.put, List.setIfInBounds_toArray, List.set_cons_zero, List.set_cons_succ]
      refine wpAnyH_take (i := 6) (oi := ⟨some 23, _, _, _, _, _⟩) (v := ?_) rfl (by kernel_rfl) (by kernel_rfl) (by kernel_rfl) (fun _ _ _ h => h) (Or.inl ⟨by rfl, ?_⟩) (by assumption) ?_
      rotate_left 1
      · (intro w hSw; (try dsimp only at hSw); obtain ⟨s0, t0, sD, tD⟩ := HSK.out _ hSw; go_simp) <;> (with_reducible rfl)
      try simp only [Act.put, List.setIfInBounds_toArray, List.set_cons_zero, List.set_cons_succ]
      refine wpAnyH_take (i := 7) (oi := ⟨some 24, _, _, _, _, _⟩) (v := ?_) rfl (by kernel_rfl) (by kernel_rfl) (by kernel_rfl) (fun _ _ _ h => h) (Or.inl ⟨by rfl, ?_⟩) (by assumption) ?_
      rotate_left 1
      · (intro w hSw; (try dsimp only at hSw); obtain ⟨s0, t0, sD, tD⟩ := HSK.out _ hSw; go_simp) <;> (with_reducible rfl)
      try simp only [Act.put, List.setIfInBounds_toArray, List.set_cons_zero, List.set_cons_succ]
      refine wpAnyH_take (i := 8) (oi := ⟨some 25, _, _, _, _, _⟩) (v := ?_) rfl (by kernel_rfl) (by kernel_rfl) (by kernel_rfl) (fun _ _ _ h => h) (Or.inl ⟨by rfl, ?_⟩) (by assumption) ?_
      rotate_left 1
      · (intro w hSw; (try dsimp only at hSw); obtain ⟨s0, t0, sD, tD⟩ := HSK.out _ hSw; go_simp) <;> (with_reducible rfl)
      try simp only [Act.put, List.setIfInBounds_toArray, List.set_cons_zero, List.set_cons_succ]
      refine wpAnyH_take (i := 9) (oi := ⟨some 26, _, _, _, _, _⟩) (v := ?_) rfl (by kernel_rfl) (by kernel_rfl) (by kernel_rfl) (fun _ _ _ h => h) (Or.inl ⟨by rfl, ?_⟩) (by assumption) ?_
      rotate_left 1
      · (intro w hSw; (try dsimp only at hSw); obtain ⟨s0, t0, sD, tD⟩ := HSK.out _ hSw; go_simp) <;> (with_reducible rfl)
      try simp only [Act.put, List.setIfInBounds_toArray, List.set_cons_zero, List.set_cons_succ]
      refine wpAnyH_take (i := 10) (oi := ⟨some 27, _, _, _, _, _⟩) (v := ?_) rfl (by kernel_rfl) (by kernel_rfl) (by kernel_rfl) (fun _ _ _ h => h) (Or.inl ⟨by rfl, ?_⟩) (by assumption) ?_
      rotate_left 1
      · (intro w hSw; (try dsimp only at hSw); obtain ⟨s0, t0, sD, tD⟩ := HSK.out _ hSw; go_simp) <;> (with_reducible rfl)
      try simp only [Act.put, List.setIfInBounds_toArray, List.set_cons_zero, List.set_cons_succ]
      refine wpAnyH_done (by kernel_rfl) ?_ _
      clear hHeld
      go_wp2_with fail
      go_roundw
      case rel => exact ⟨k + 1, by omega, by go_num, HT1, by first | exact HFR.out.drewN _ | exact HFR.out.drew⟩
      case measure => simp [intOf]; omega
    · have HE : Hid (xs.map (·.2.2) = ys.map (·.2.2)) := by
        have h1 := HT.out
        rw [List.take_of_length_le (by rw [List.length_map, HLN.out.1]; omega), List.take_of_length_le (by rw [List.length_map, HLN.out.2]; omega)] at h1
        exact h1
      go_wp2_with fail
      go_ret
      exact ⟨SameRP.yes HE.out, HFR.out⟩
end Go.Proofs.Ytchlafhmoncldaa
