/- SnapPacks is true: any body is put into frames, and any bytes are read as such, or refused, exactly. No condition but what the card ties. -/
import Derived.Test.YtokonhcphhpogaaDoorLaw
import Derived.Test.YtokonhcphhpogaaDoorOpen
import Derived.Test.YtokonhcphhpogaaDoorLowB
import Derived.Test.YtokonhcphhpogaaDoorRUnpack
import Derived.Test.YtokonhcphhpogaaDoorSaveP
namespace Go.Proofs.YtokonhcphhpogaaDoor.snapPacks
open Go.ChangeShapes Go.WideShapes Go.ChangeAt Go.RowKit

set_option maxRecDepth 100000 in
set_option maxHeartbeats 8000000 in
theorem walk (w : World) (ht : Tab w) (A : Option Addr) (c : Nat) (a : Bs) (B : Option Addr) (c' : Nat) (r : Bs) (hra : Part w (A, c, a)) (hca : a.length ≤ c) (hc : c ≤ maxLen) (hrb : Part w (B, c', r)) (hcb : r.length ≤ c') (hc' : c' ≤ maxLen) :
    Calls Tryd.prog 3 #[.slice A a.length c, .slice B r.length c'] w fun e w' => e = .returned (.bool true) ∧ Fr NoBlk w w' := by
  obtain ⟨i0, hi, hz0, hz1, hz2⟩ := info_parts byteInfo
  have HT := Lib.hid ht
  have HA := Lib.hid hra
  have HB := Lib.hid hrb
  have HCA := Lib.hid hca
  have HCB := Lib.hid hcb
  have ha : a.length ≤ 9223372036854775807 := by unfold maxLen at hc; omega
  have hb : r.length ≤ 9223372036854775807 := by unfold maxLen at hc'; omega
  clear ht hra hrb hca hcb hc hc'
  obtain ⟨la, hla⟩ : ∃ la, la = a.length := ⟨_, rfl⟩
  obtain ⟨lb, hlb⟩ : ∃ lb, lb = r.length := ⟨_, rfl⟩
  have HLA := Lib.hid hla
  have HLB := Lib.hid hlb
  rw [← hla] at ha ⊢
  rw [← hlb] at hb ⊢
  clear hla hlb
  go_enter Tryd.func3, Tryd.ntmps3
  go_wp2_with fail
  refine (speaks_any w HT.out).mono ?_
  rintro e w1 ⟨rfl, hf1⟩
  have HF1 := Lib.hid hf1
  clear hf1
  by_cases hb1 : 5000 < la
  · go_wp2_with fail
    go_ret
    exact ⟨rfl, HF1.out⟩
  by_cases hb2 : 5000 < lb
  · go_wp2_with fail
    go_ret
    exact ⟨rfl, HF1.out⟩
  have HLA5 : Hid (a.length ≤ 5000) := by show _ ≤ _; have := HLA.out; omega
  have HLB5 : Hid (r.length ≤ 5000) := by show _ ≤ _; have := HLB.out; omega
  have HE1 : Hid ((w1.alloc (.cells #[] 5)).ownsRow w1.heap.size 5 1 (.slice (some ⟨w1.heap.size, 0, none⟩) 0 0) 0 []) := World.ownsRow_made (e := 5) (size := 1) w1 #[] 0 (Nat.le_refl _) (by decide) rfl
  have HFA1 : Hid (Fr NoBlk w1 (w1.alloc (.cells #[] 5))) := (Fr.refl _ _).alloc _
  go_wp2_with (at_builtin; refine wpList_app rfl _ _ 22 rfl w1.heap.size 5 i0 (.int .u8 0) 1 Tryd.underlying22 hi hz0 hz1 hz2 rfl (.slice (some ⟨w1.heap.size, 0, none⟩) 0 0) 0 [] rfl HE1.out A c la (cb a) rfl (by rw [cb_length]; exact HLA.out.symm) (HA.out.1.nofr (HF1.out.trans HFA1.out)) (cb_one _) HA.out.2 (by unfold maxLen; omega) (by omega) (by simp) ?_)
  intro v5 w5 ho5 hg5 _ hb5
  have HO5 : Hid (w5.ownsRow w1.heap.size 5 1 v5 la (cb a)) := by
    show World.ownsRow _ _ _ _ _ _ _
    simpa using ho5
  have HF5 : Hid (Fr NoBlk w1 w5) := HFA1.out.grown hg5 fun q hq hlt => by
    have : w1.heap.size = q := by simpa [Value.ownBlock] using hq
    omega
  obtain ⟨A5, c5, rfl, hc5, hA5⟩ := own_form HO5.out
  have HC5 := Lib.hid hc5
  have HA5 := Lib.hid hA5
  have HE5 : Hid ((w5.alloc (.cells #[] 5)).ownsRow w5.heap.size 5 1 (.slice (some ⟨w5.heap.size, 0, none⟩) 0 0) 0 []) := World.ownsRow_made (e := 5) (size := 1) w5 #[] 0 (Nat.le_refl _) (by decide) rfl
  have HFA5 : Hid (Fr NoBlk w5 (w5.alloc (.cells #[] 5))) := (Fr.refl _ _).alloc _
  clear ho5 hg5 hb5 HE1 HFA1 hc5 hA5
  go_wp2_with (at_builtin; refine wpList_app rfl _ _ 22 rfl w5.heap.size 5 i0 (.int .u8 0) 1 Tryd.underlying22 hi hz0 hz1 hz2 rfl (.slice (some ⟨w5.heap.size, 0, none⟩) 0 0) 0 [] rfl HE5.out B c' lb (cb r) rfl (by rw [cb_length]; exact HLB.out.symm) (HB.out.1.nofr (HF1.out.trans (HF5.out.trans HFA5.out))) (cb_one _) HB.out.2 (by unfold maxLen; omega) (by omega) (by simp) ?_)
  intro v6 w6 ho6 hg6 _ hb6
  have HO6 : Hid (w6.ownsRow w5.heap.size 5 1 v6 lb (cb r)) := by
    show World.ownsRow _ _ _ _ _ _ _
    simpa using ho6
  have HF56 : Hid (Fr NoBlk w5 w6) := HFA5.out.grown hg6 fun q hq hlt => by
    have : w5.heap.size = q := by simpa [Value.ownBlock] using hq
    omega
  obtain ⟨A6, c6, rfl, hc6, hA6⟩ := own_form HO6.out
  have HC6 := Lib.hid hc6
  have HA6 := Lib.hid hA6
  have HF6 := Lib.hid (HF1.out.trans (HF5.out.trans HF56.out))
  have HR5 := Lib.hid ((Rd.of_own HO5.out).nofr HF56.out)
  have HR6 := Lib.hid (Rd.of_own HO6.out)
  have hp := pack_any w6 (HT.out.fr HF6.out fun h => h) A5 c5 a ⟨HR5.out, HA5.out⟩ (by rw [← HLA.out]; exact HC5.out) (by have := HLA5.out; omega)
  rw [← HLA.out] at hp
  have HC := Lib.hid hp
  clear ho6 hg6 hb6 HE5 HFA5 hc6 hA6 HO5 HO6 hp HF5 HF56
  go_wp2_with fail
  refine HC.out.mono ?_
  clear HC
  rintro e w7 ⟨v7, rfl, hn7⟩
  obtain ⟨A7, c7, rfl, hc7, hA7⟩ := own_form hn7.own
  have HF7 := Lib.hid hn7.fr
  have HR7 := Lib.hid (Rd.of_own hn7.own)
  have hu := unpack_any w7 (HT.out.fr (HF6.out.trans hn7.fr) fun h => h) A7 c7 (pk a) ⟨HR7.out, hA7⟩ hc7 (by have := pk_small a HLA5.out; omega)
  rw [unpk_pk a (by have := HLA5.out; omega)] at hu
  obtain ⟨np, hnp⟩ : ∃ np, np = (pk a).length := ⟨_, rfl⟩
  have HNP := Lib.hid hnp
  rw [← hnp] at hu ⊢
  have HC := Lib.hid hu
  clear hn7 hc7 hA7 hu hnp
  go_wp2_with fail
  refine HC.out.mono ?_
  clear HC
  rintro e w8 ⟨v8, rfl, hn8⟩
  obtain ⟨A8, c8, rfl, _, _⟩ := own_form hn8.own
  have HF8 := Lib.hid (HF7.out.trans hn8.fr)
  have HR8 := Lib.hid (Rd.of_own hn8.own)
  have HR78 := Lib.hid (HR7.out.nofr hn8.fr)
  have hu := unpack_any w8 (HT.out.fr (HF6.out.trans HF8.out) fun h => h) A6 c6 r ⟨HR6.out.nofr HF8.out, HA6.out⟩ (by rw [← HLB.out]; exact HC6.out) (by have := HLB5.out; omega)
  rw [← HLB.out] at hu
  have HC := Lib.hid hu
  clear hn8 hu HF7 HR7
  dsimp only
  rw [← HLA.out]
  go_wp2_with fail
  refine HC.out.mono ?_
  clear HC
  rintro e w9 ⟨v9, rfl, hn9⟩
  obtain ⟨A9, c9, rfl, _, _⟩ := own_form hn9.own
  have HF9 := Lib.hid (HF8.out.trans hn9.fr)
  have HR9 := Lib.hid (Rd.of_own hn9.own)
  have HR89 := Lib.hid (HR8.out.nofr hn9.fr)
  have HR79 := Lib.hid (HR78.out.nofr hn9.fr)
  have hu := runpack_any w9 B c' r ⟨HB.out.1.nofr (HF6.out.trans HF9.out), HB.out.2⟩ HCB.out (by have := HLB5.out; omega)
  rw [← HLB.out] at hu
  have HC := Lib.hid hu
  obtain ⟨ur, hur⟩ : ∃ ur, ur = (unpk r).1.length := ⟨_, rfl⟩
  have HUR := Lib.hid hur
  rw [← hur]
  clear hn9 hu HF8 HR8 HR78 hur
  go_wp2_with fail
  refine HC.out.mono ?_
  clear HC
  rintro e w10 ⟨v10, rfl, hn10⟩
  obtain ⟨A10, c10, rfl, _, _⟩ := own_form hn10.own
  have HF10 := Lib.hid (HF9.out.trans hn10.fr)
  have HR10 := Lib.hid (Rd.of_own hn10.own)
  have HR90 := Lib.hid (HR9.out.nofr hn10.fr)
  have HR80 := Lib.hid (HR89.out.nofr hn10.fr)
  have HR70 := Lib.hid (HR79.out.nofr hn10.fr)
  rw [← HUR.out]
  clear hn10 HF9 HR9 HR89 HR79
  obtain ⟨xp, hxp⟩ : ∃ x, x = bstr (pk a) := ⟨_, rfl⟩
  obtain ⟨xa, hxa⟩ : ∃ x, x = bstr a := ⟨_, rfl⟩
  obtain ⟨xu, hxu⟩ : ∃ x, x = bstr (unpk r).1 := ⟨_, rfl⟩
  obtain ⟨xr, hxr⟩ : ∃ x, x = bstr r := ⟨_, rfl⟩
  have HFW : Hid (Fr NoBlk w w10) := HF6.out.trans HF10.out
  have HS : Hid (∀ W, Fr NoBlk w10 W → (convert 22 9 (.slice A7 np c7)).run Tryd.prog W = .ok (.string xp) W ∧ (convert 22 9 (.slice A8 la c8)).run Tryd.prog W = .ok (.string xa) W ∧ (convert 22 9 (.slice A la c)).run Tryd.prog W = .ok (.string xa) W ∧ (convert 22 9 (.slice A9 ur c9)).run Tryd.prog W = .ok (.string xu) W ∧ (convert 22 9 (.slice A10 ur c10)).run Tryd.prog W = .ok (.string xu) W ∧ (convert 22 9 (.slice A5 la c5)).run Tryd.prog W = .ok (.string xa) W ∧ (convert 22 9 (.slice A6 lb c6)).run Tryd.prog W = .ok (.string xr) W ∧ (convert 22 9 (.slice B lb c')).run Tryd.prog W = .ok (.string xr) W) := fun W hW => by
    rw [hxp, hxa, hxu, hxr]
    exact ⟨strBs W A7 np c7 (pk a) HNP.out (HR70.out.nofr hW), strBs W A8 la c8 a HLA.out (HR80.out.nofr hW), strBs W A la c a HLA.out (HA.out.1.nofr (HFW.out.trans hW)), strBs W A9 ur c9 _ HUR.out (HR90.out.nofr hW), strBs W A10 ur c10 _ HUR.out (HR10.out.nofr hW), strBs W A5 la c5 a HLA.out (HR5.out.nofr (HF10.out.trans hW)), strBs W A6 lb c6 r HLB.out (HR6.out.nofr (HF10.out.trans hW)), strBs W B lb c' r HLB.out (HB.out.1.nofr (HFW.out.trans hW))⟩
  have HRP : Hid (∀ W, Fr NoBlk w10 W → Calls Tryd.prog 12 #[.slice A la c] W fun e w' => ∃ v', e = .returned v' ∧ New W w' v' (pk a)) := fun W hW => by
    have h := rpack_any W A c a ⟨HA.out.1.nofr (HFW.out.trans hW), HA.out.2⟩ HCA.out (by have := HLA5.out; omega)
    rw [← HLA.out] at h
    exact h
  have HXP := Lib.hid hxp
  clear hxp hxa hxu hxr
  generalize (unpk r).2 = ue at *
  go_wp2_with fail
  refine wp_region_held_drew (S := fun W => (convert 22 9 (.slice A7 np c7)).run Tryd.prog W = .ok (.string xp) W ∧ (convert 22 9 (.slice A8 la c8)).run Tryd.prog W = .ok (.string xa) W ∧ (convert 22 9 (.slice A la c)).run Tryd.prog W = .ok (.string xa) W ∧ (convert 22 9 (.slice A9 ur c9)).run Tryd.prog W = .ok (.string xu) W ∧ (convert 22 9 (.slice A10 ur c10)).run Tryd.prog W = .ok (.string xu) W ∧ (convert 22 9 (.slice A5 la c5)).run Tryd.prog W = .ok (.string xa) W ∧ (convert 22 9 (.slice A6 lb c6)).run Tryd.prog W = .ok (.string xr) W ∧ (convert 22 9 (.slice B lb c')).run Tryd.prog W = .ok (.string xr) W) (by kernel_rfl) (by exact HS.out _ (Fr.refl _ _).drew) (fun hHeld => ?_)
  refine wpAnyH_take (i := 0) (oi := ⟨some 47, _, _, _, _, _⟩) (v := ?_) rfl (by kernel_rfl) (by kernel_rfl) (by kernel_rfl) (fun _ _ _ h => h) (Or.inl ⟨by rfl, ?_⟩) (by assumption) ?_
  rotate_left 1
  · (intro w hSw; (try dsimp only at hSw); go_simp) <;> (with_reducible rfl)
  try simp only [Act.put, List.setIfInBounds_toArray, List.set_cons_zero, List.set_cons_succ]
  refine wpAnyH_take (i := 1) (oi := ⟨some 48, _, _, _, _, _⟩) (v := ?_) rfl (by kernel_rfl) (by kernel_rfl) (by kernel_rfl) (fun _ _ _ h => h) (Or.inl ⟨by rfl, ?_⟩) (by assumption) ?_
  rotate_left 1
  · (intro w hSw; (try dsimp only at hSw); go_simp) <;> (with_reducible rfl)
  try simp only [Act.put, List.setIfInBounds_toArray, List.set_cons_zero, List.set_cons_succ]
  refine wpAnyH_take (i := 2) (oi := ⟨some 49, _, _, _, _, _⟩) (v := ?_) rfl (by kernel_rfl) (by kernel_rfl) (by kernel_rfl) (fun _ _ _ h => h) (Or.inl ⟨by rfl, ?_⟩) (by assumption) ?_
  rotate_left 1
  · (intro w hSw; (try dsimp only at hSw); go_simp) <;> (with_reducible rfl)
  try simp only [Act.put, List.setIfInBounds_toArray, List.set_cons_zero, List.set_cons_succ]
  refine wpAnyH_ready (rs := [3]) (by kernel_rfl) (by simp) ?_
  refine AllReadyH.cons (o := ⟨some 50, _, _, _, _, _⟩) rfl (fun K hK => ?_) AllReadyH.nil
  go_simp
  refine (HRP.out _ (Fr.refl _ _).drew).mono ?_
  rintro e w11 ⟨v11, rfl, hn11⟩
  obtain ⟨A11, c11, rfl, _, _⟩ := own_form hn11.own
  have HF11 : Hid (Fr NoBlk w10 w11) := Fr.trans (Fr.refl _ _).drew hn11.fr
  have s11 : (convert 22 9 (.slice A11 (pk a).length c11)).run Tryd.prog w11 = .ok (.string xp) w11 := by rw [HXP.out]; exact strBs w11 A11 _ c11 (pk a) rfl (Rd.of_own hn11.own)
  rw [← HNP.out] at s11 ⊢
  clear hn11
  refine hK.out _ _ ?_ (fun hHeld => ?_)
  · exact HS.out _ HF11.out
  clear hK K
  try simp only [Act.put, List.setIfInBounds_toArray, List.set_cons_zero, List.set_cons_succ]
  refine wpAnyH_ready (rs := [4]) (by kernel_rfl) (by simp) ?_
  refine AllReadyH.cons (o := ⟨some 51, _, _, _, _, _⟩) rfl (fun K hK => ?_) AllReadyH.nil
  go_simp
  skip
  refine hK.out _ _ ?_ (fun hHeld => ?_)
  · exact HS.out _ HF11.out
  clear hK K
  try simp only [Act.put, List.setIfInBounds_toArray, List.set_cons_zero, List.set_cons_succ]
  refine wpAnyH_take (i := 5) (oi := ⟨some 52, _, _, _, _, _⟩) (v := ?_) rfl (by kernel_rfl) (by kernel_rfl) (by kernel_rfl) (fun _ _ _ h => h) (Or.inl ⟨by rfl, ?_⟩) (by assumption) ?_
  rotate_left 1
  · (intro w hSw; (try dsimp only at hSw); go_simp) <;> (with_reducible rfl)
  try simp only [Act.put, List.setIfInBounds_toArray, List.set_cons_zero, List.set_cons_succ]
  refine wpAnyH_take (i := 6) (oi := ⟨some 53, _, _, _, _, _⟩) (v := ?_) rfl (by kernel_rfl) (by kernel_rfl) (by kernel_rfl) (fun _ _ _ h => h) (Or.inl ⟨by rfl, ?_⟩) (by assumption) ?_
  rotate_left 1
  · (intro w hSw; (try dsimp only at hSw); go_simp) <;> (with_reducible rfl)
  try simp only [Act.put, List.setIfInBounds_toArray, List.set_cons_zero, List.set_cons_succ]
  refine wpAnyH_take (i := 7) (oi := ⟨some 54, _, _, _, _, _⟩) (v := ?_) rfl (by kernel_rfl) (by kernel_rfl) (by kernel_rfl) (fun _ _ _ h => h) (Or.inl ⟨by rfl, ?_⟩) (by assumption) ?_
  rotate_left 1
  · (intro w hSw; (try dsimp only at hSw); go_simp) <;> (with_reducible rfl)
  try simp only [Act.put, List.setIfInBounds_toArray, List.set_cons_zero, List.set_cons_succ]
  refine wpAnyH_take (i := 8) (oi := ⟨some 55, _, _, _, _, _⟩) (v := ?_) rfl (by kernel_rfl) (by kernel_rfl) (by kernel_rfl) (fun _ _ _ h => h) (Or.inl ⟨by rfl, ?_⟩) (by assumption) ?_
  rotate_left 1
  · (intro w hSw; (try dsimp only at hSw); go_simp) <;> (with_reducible rfl)
  try simp only [Act.put, List.setIfInBounds_toArray, List.set_cons_zero, List.set_cons_succ]
  refine wpAnyH_take (i := 9) (oi := ⟨some 56, _, _, _, _, _⟩) (v := ?_) rfl (by kernel_rfl) (by kernel_rfl) (by kernel_rfl) (fun _ _ _ h => h) (Or.inl ⟨by rfl, ?_⟩) (by assumption) ?_
  rotate_left 1
  · (intro w hSw; (try dsimp only at hSw); go_simp) <;> (with_reducible rfl)
  try simp only [Act.put, List.setIfInBounds_toArray, List.set_cons_zero, List.set_cons_succ]
  refine wpAnyH_take (i := 10) (oi := ⟨some 57, _, _, _, _, _⟩) (v := ?_) rfl (by kernel_rfl) (by kernel_rfl) (by kernel_rfl) (fun _ _ _ h => h) (Or.inl ⟨by rfl, ?_⟩) (by assumption) ?_
  rotate_left 1
  · (intro w hSw; (try dsimp only at hSw); go_simp) <;> (with_reducible rfl)
  try simp only [Act.put, List.setIfInBounds_toArray, List.set_cons_zero, List.set_cons_succ]
  refine wpAnyH_take (i := 11) (oi := ⟨some 58, _, _, _, _, _⟩) (v := ?_) rfl (by kernel_rfl) (by kernel_rfl) (by kernel_rfl) (fun _ _ _ h => h) (Or.inl ⟨by rfl, ?_⟩) (by assumption) ?_
  rotate_left 1
  · (intro w hSw; (try dsimp only at hSw); go_simp) <;> (with_reducible rfl)
  try simp only [Act.put, List.setIfInBounds_toArray, List.set_cons_zero, List.set_cons_succ]
  refine wpAnyH_take (i := 12) (oi := ⟨some 59, _, _, _, _, _⟩) (v := ?_) rfl (by kernel_rfl) (by kernel_rfl) (by kernel_rfl) (fun _ _ _ h => h) (Or.inl ⟨by rfl, ?_⟩) (by assumption) ?_
  rotate_left 1
  · (intro w hSw; (try dsimp only at hSw); go_simp) <;> (with_reducible rfl)
  try simp only [Act.put, List.setIfInBounds_toArray, List.set_cons_zero, List.set_cons_succ]
  refine wpAnyH_take (i := 13) (oi := ⟨some 60, _, _, _, _, _⟩) (v := ?_) rfl (by kernel_rfl) (by kernel_rfl) (by kernel_rfl) (fun _ _ _ h => h) (Or.inl ⟨by rfl, ?_⟩) (by assumption) ?_
  rotate_left 1
  · (intro w hSw; (try dsimp only at hSw); go_simp) <;> (with_reducible rfl)
  try simp only [Act.put, List.setIfInBounds_toArray, List.set_cons_zero, List.set_cons_succ]
  refine wpAnyH_take (i := 14) (oi := ⟨some 61, _, _, _, _, _⟩) (v := ?_) rfl (by kernel_rfl) (by kernel_rfl) (by kernel_rfl) (fun _ _ _ h => h) (Or.inl ⟨by rfl, ?_⟩) (by assumption) ?_
  rotate_left 1
  · (intro w hSw; (try dsimp only at hSw); go_simp) <;> (with_reducible rfl)
  try simp only [Act.put, List.setIfInBounds_toArray, List.set_cons_zero, List.set_cons_succ]
  refine wpAnyH_take (i := 15) (oi := ⟨some 62, _, _, _, _, _⟩) (v := ?_) rfl (by kernel_rfl) (by kernel_rfl) (by kernel_rfl) (fun _ _ _ h => h) (Or.inl ⟨by rfl, ?_⟩) (by assumption) ?_
  rotate_left 1
  · (intro w hSw; (try dsimp only at hSw); go_simp) <;> (with_reducible rfl)
  try simp only [Act.put, List.setIfInBounds_toArray, List.set_cons_zero, List.set_cons_succ]
  refine wpAnyH_take (i := 16) (oi := ⟨some 63, _, _, _, _, _⟩) (v := ?_) rfl (by kernel_rfl) (by kernel_rfl) (by kernel_rfl) (fun _ _ _ h => h) (Or.inl ⟨by rfl, ?_⟩) (by assumption) ?_
  rotate_left 1
  · (intro w hSw; (try dsimp only at hSw); go_simp) <;> (with_reducible rfl)
  try simp only [Act.put, List.setIfInBounds_toArray, List.set_cons_zero, List.set_cons_succ]
  refine wpAnyH_take (i := 17) (oi := ⟨some 64, _, _, _, _, _⟩) (v := ?_) rfl (by kernel_rfl) (by kernel_rfl) (by kernel_rfl) (fun _ _ _ h => h) (Or.inl ⟨by rfl, ?_⟩) (by assumption) ?_
  rotate_left 1
  · (intro w hSw; (try dsimp only at hSw); go_simp) <;> (with_reducible rfl)
  try simp only [Act.put, List.setIfInBounds_toArray, List.set_cons_zero, List.set_cons_succ]
  refine wpAnyH_take (i := 18) (oi := ⟨some 65, _, _, _, _, _⟩) (v := ?_) rfl (by kernel_rfl) (by kernel_rfl) (by kernel_rfl) (fun _ _ _ h => h) (Or.inl ⟨by rfl, ?_⟩) (by assumption) ?_
  rotate_left 1
  · (intro w hSw; (try dsimp only at hSw); go_simp) <;> (with_reducible rfl)
  try simp only [Act.put, List.setIfInBounds_toArray, List.set_cons_zero, List.set_cons_succ]
  refine wpAnyH_take (i := 19) (oi := ⟨some 66, _, _, _, _, _⟩) (v := ?_) rfl (by kernel_rfl) (by kernel_rfl) (by kernel_rfl) (fun _ _ _ h => h) (Or.inl ⟨by rfl, ?_⟩) (by assumption) ?_
  rotate_left 1
  · (intro w hSw; (try dsimp only at hSw); go_simp) <;> (with_reducible rfl)
  try simp only [Act.put, List.setIfInBounds_toArray, List.set_cons_zero, List.set_cons_succ]
  refine wpAnyH_take (i := 20) (oi := ⟨some 67, _, _, _, _, _⟩) (v := ?_) rfl (by kernel_rfl) (by kernel_rfl) (by kernel_rfl) (fun _ _ _ h => h) (Or.inl ⟨by rfl, ?_⟩) (by assumption) ?_
  rotate_left 1
  · (intro w hSw; (try dsimp only at hSw); go_simp) <;> (with_reducible rfl)
  try simp only [Act.put, List.setIfInBounds_toArray, List.set_cons_zero, List.set_cons_succ]
  refine wpAnyH_take (i := 21) (oi := ⟨some 68, _, _, _, _, _⟩) (v := ?_) rfl (by kernel_rfl) (by kernel_rfl) (by kernel_rfl) (fun _ _ _ h => h) (Or.inl ⟨by rfl, ?_⟩) (by assumption) ?_
  rotate_left 1
  · (intro w hSw; (try dsimp only at hSw); go_simp) <;> (with_reducible rfl)
  try simp only [Act.put, List.setIfInBounds_toArray, List.set_cons_zero, List.set_cons_succ]
  refine wpAnyH_take (i := 22) (oi := ⟨some 69, _, _, _, _, _⟩) (v := ?_) rfl (by kernel_rfl) (by kernel_rfl) (by kernel_rfl) (fun _ _ _ h => h) (Or.inl ⟨by rfl, ?_⟩) (by assumption) ?_
  rotate_left 1
  · (intro w hSw; (try dsimp only at hSw); go_simp) <;> (with_reducible rfl)
  try simp only [Act.put, List.setIfInBounds_toArray, List.set_cons_zero, List.set_cons_succ]
  refine wpAnyH_take (i := 23) (oi := ⟨some 70, _, _, _, _, _⟩) (v := ?_) rfl (by kernel_rfl) (by kernel_rfl) (by kernel_rfl) (fun _ _ _ h => h) (Or.inl ⟨by rfl, ?_⟩) (by assumption) ?_
  rotate_left 1
  · (intro w hSw; (try dsimp only at hSw); go_simp) <;> (with_reducible rfl)
  try simp only [Act.put, List.setIfInBounds_toArray, List.set_cons_zero, List.set_cons_succ]
  refine wpAnyH_take (i := 24) (oi := ⟨some 71, _, _, _, _, _⟩) (v := ?_) rfl (by kernel_rfl) (by kernel_rfl) (by kernel_rfl) (fun _ _ _ h => h) (Or.inl ⟨by rfl, ?_⟩) (by assumption) ?_
  rotate_left 1
  · (intro w hSw; (try dsimp only at hSw); go_simp) <;> (with_reducible rfl)
  try simp only [Act.put, List.setIfInBounds_toArray, List.set_cons_zero, List.set_cons_succ]
  refine wpAnyH_take (i := 25) (oi := ⟨some 72, _, _, _, _, _⟩) (v := ?_) rfl (by kernel_rfl) (by kernel_rfl) (by kernel_rfl) (fun _ _ _ h => h) (Or.inl ⟨by rfl, ?_⟩) (by assumption) ?_
  rotate_left 1
  · (intro w hSw; (try dsimp only at hSw); go_simp) <;> (with_reducible rfl)
  try simp only [Act.put, List.setIfInBounds_toArray, List.set_cons_zero, List.set_cons_succ]
  refine wpAnyH_take (i := 26) (oi := ⟨some 73, _, _, _, _, _⟩) (v := ?_) rfl (by kernel_rfl) (by kernel_rfl) (by kernel_rfl) (fun _ _ _ h => h) (Or.inl ⟨by rfl, ?_⟩) (by assumption) ?_
  rotate_left 1
  · (intro w hSw; (try dsimp only at hSw); go_simp) <;> (with_reducible rfl)
  try simp only [Act.put, List.setIfInBounds_toArray, List.set_cons_zero, List.set_cons_succ]
  refine wpAnyH_take (i := 27) (oi := ⟨some 74, _, _, _, _, _⟩) (v := ?_) rfl (by kernel_rfl) (by kernel_rfl) (by kernel_rfl) (fun _ _ _ h => h) (Or.inl ⟨by rfl, ?_⟩) (by assumption) ?_
  rotate_left 1
  · (intro w hSw; (try dsimp only at hSw); go_simp) <;> (with_reducible rfl)
  try simp only [Act.put, List.setIfInBounds_toArray, List.set_cons_zero, List.set_cons_succ]
  refine wpAnyH_take (i := 28) (oi := ⟨some 75, _, _, _, _, _⟩) (v := ?_) rfl (by kernel_rfl) (by kernel_rfl) (by kernel_rfl) (fun _ _ _ h => h) (Or.inl ⟨by rfl, ?_⟩) (by assumption) ?_
  rotate_left 1
  · (intro w hSw; (try dsimp only at hSw); go_simp) <;> (with_reducible rfl)
  try simp only [Act.put, List.setIfInBounds_toArray, List.set_cons_zero, List.set_cons_succ]
  refine wpAnyH_take (i := 29) (oi := ⟨some 76, _, _, _, _, _⟩) (v := ?_) rfl (by kernel_rfl) (by kernel_rfl) (by kernel_rfl) (fun _ _ _ h => h) (Or.inl ⟨by rfl, ?_⟩) (by assumption) ?_
  rotate_left 1
  · (intro w hSw; (try dsimp only at hSw); go_simp) <;> (with_reducible rfl)
  try simp only [Act.put, List.setIfInBounds_toArray, List.set_cons_zero, List.set_cons_succ]
  refine wpAnyH_take (i := 30) (oi := ⟨some 77, _, _, _, _, _⟩) (v := ?_) rfl (by kernel_rfl) (by kernel_rfl) (by kernel_rfl) (fun _ _ _ h => h) (Or.inl ⟨by rfl, ?_⟩) (by assumption) ?_
  rotate_left 1
  · (intro w hSw; (try dsimp only at hSw); go_simp) <;> (with_reducible rfl)
  try simp only [Act.put, List.setIfInBounds_toArray, List.set_cons_zero, List.set_cons_succ]
  refine wpAnyH_take (i := 31) (oi := ⟨some 78, _, _, _, _, _⟩) (v := ?_) rfl (by kernel_rfl) (by kernel_rfl) (by kernel_rfl) (fun _ _ _ h => h) (Or.inl ⟨by rfl, ?_⟩) (by assumption) ?_
  rotate_left 1
  · (intro w hSw; (try dsimp only at hSw); go_simp) <;> (with_reducible rfl)
  try simp only [Act.put, List.setIfInBounds_toArray, List.set_cons_zero, List.set_cons_succ]
  refine wpAnyH_take (i := 32) (oi := ⟨some 79, _, _, _, _, _⟩) (v := ?_) rfl (by kernel_rfl) (by kernel_rfl) (by kernel_rfl) (fun _ _ _ h => h) (Or.inl ⟨by rfl, ?_⟩) (by assumption) ?_
  rotate_left 1
  · (intro w hSw; (try dsimp only at hSw); go_simp) <;> (with_reducible rfl)
  try simp only [Act.put, List.setIfInBounds_toArray, List.set_cons_zero, List.set_cons_succ]
  refine wpAnyH_take (i := 33) (oi := ⟨some 80, _, _, _, _, _⟩) (v := ?_) rfl (by kernel_rfl) (by kernel_rfl) (by kernel_rfl) (fun _ _ _ h => h) (Or.inl ⟨by rfl, ?_⟩) (by assumption) ?_
  rotate_left 1
  · (intro w hSw; (try dsimp only at hSw); go_simp) <;> (with_reducible rfl)
  try simp only [Act.put, List.setIfInBounds_toArray, List.set_cons_zero, List.set_cons_succ]
  refine wpAnyH_take (i := 34) (oi := ⟨some 81, _, _, _, _, _⟩) (v := ?_) rfl (by kernel_rfl) (by kernel_rfl) (by kernel_rfl) (fun _ _ _ h => h) (Or.inl ⟨by rfl, ?_⟩) (by assumption) ?_
  rotate_left 1
  · (intro w hSw; (try dsimp only at hSw); go_simp) <;> (with_reducible rfl)
  try simp only [Act.put, List.setIfInBounds_toArray, List.set_cons_zero, List.set_cons_succ]
  refine wpAnyH_take (i := 35) (oi := ⟨some 82, _, _, _, _, _⟩) (v := ?_) rfl (by kernel_rfl) (by kernel_rfl) (by kernel_rfl) (fun _ _ _ h => h) (Or.inl ⟨by rfl, ?_⟩) (by assumption) ?_
  rotate_left 1
  · (intro w hSw; (try dsimp only at hSw); go_simp) <;> (with_reducible rfl)
  try simp only [Act.put, List.setIfInBounds_toArray, List.set_cons_zero, List.set_cons_succ]
  refine wpAnyH_take (i := 36) (oi := ⟨some 83, _, _, _, _, _⟩) (v := ?_) rfl (by kernel_rfl) (by kernel_rfl) (by kernel_rfl) (fun _ _ _ h => h) (Or.inl ⟨by rfl, ?_⟩) (by assumption) ?_
  rotate_left 1
  · (intro w hSw; (try dsimp only at hSw); go_simp) <;> (with_reducible rfl)
  try simp only [Act.put, List.setIfInBounds_toArray, List.set_cons_zero, List.set_cons_succ]
  refine wpAnyH_take (i := 37) (oi := ⟨some 84, _, _, _, _, _⟩) (v := ?_) rfl (by kernel_rfl) (by kernel_rfl) (by kernel_rfl) (fun _ _ _ h => h) (Or.inl ⟨by rfl, ?_⟩) (by assumption) ?_
  rotate_left 1
  · (intro w hSw; (try dsimp only at hSw); go_simp) <;> (with_reducible rfl)
  try simp only [Act.put, List.setIfInBounds_toArray, List.set_cons_zero, List.set_cons_succ]
  refine wpAnyH_take (i := 38) (oi := ⟨some 85, _, _, _, _, _⟩) (v := ?_) rfl (by kernel_rfl) (by kernel_rfl) (by kernel_rfl) (fun _ _ _ h => h) (Or.inl ⟨by rfl, ?_⟩) (by assumption) ?_
  rotate_left 1
  · (intro w hSw; (try dsimp only at hSw); go_simp) <;> (with_reducible rfl)
  try simp only [Act.put, List.setIfInBounds_toArray, List.set_cons_zero, List.set_cons_succ]
  refine wpAnyH_take (i := 39) (oi := ⟨some 86, _, _, _, _, _⟩) (v := ?_) rfl (by kernel_rfl) (by kernel_rfl) (by kernel_rfl) (fun _ _ _ h => h) (Or.inl ⟨by rfl, ?_⟩) (by assumption) ?_
  rotate_left 1
  · (intro w hSw; (try dsimp only at hSw); go_simp) <;> (with_reducible rfl)
  try simp only [Act.put, List.setIfInBounds_toArray, List.set_cons_zero, List.set_cons_succ]
  refine wpAnyH_take (i := 40) (oi := ⟨some 87, _, _, _, _, _⟩) (v := ?_) rfl (by kernel_rfl) (by kernel_rfl) (by kernel_rfl) (fun _ _ _ h => h) (Or.inl ⟨by rfl, ?_⟩) (by assumption) ?_
  rotate_left 1
  · (intro w hSw; (try dsimp only at hSw); go_simp) <;> (with_reducible rfl)
  try simp only [Act.put, List.setIfInBounds_toArray, List.set_cons_zero, List.set_cons_succ]
  refine wpAnyH_take (i := 41) (oi := ⟨some 88, _, _, _, _, _⟩) (v := ?_) rfl (by kernel_rfl) (by kernel_rfl) (by kernel_rfl) (fun _ _ _ h => h) (Or.inl ⟨by rfl, ?_⟩) (by assumption) ?_
  rotate_left 1
  · (intro w hSw; (try dsimp only at hSw); go_simp) <;> (with_reducible rfl)
  try simp only [Act.put, List.setIfInBounds_toArray, List.set_cons_zero, List.set_cons_succ]
  refine wpAnyH_take (i := 42) (oi := ⟨some 89, _, _, _, _, _⟩) (v := ?_) rfl (by kernel_rfl) (by kernel_rfl) (by kernel_rfl) (fun _ _ _ h => h) (Or.inl ⟨by rfl, ?_⟩) (by assumption) ?_
  rotate_left 1
  · (intro w hSw; (try dsimp only at hSw); go_simp) <;> (with_reducible rfl)
  try simp only [Act.put, List.setIfInBounds_toArray, List.set_cons_zero, List.set_cons_succ]
  refine wpAnyH_take (i := 43) (oi := ⟨some 4, _, _, _, _, _⟩) (v := ?_) rfl (by kernel_rfl) (by kernel_rfl) (by kernel_rfl) (fun _ _ _ h => h) (Or.inl ⟨by rfl, ?_⟩) (by assumption) ?_
  rotate_left 1
  · (intro w hSw; (try dsimp only at hSw); go_simp) <;> (with_reducible rfl)
  try simp only [Act.put, List.setIfInBounds_toArray, List.set_cons_zero, List.set_cons_succ]
  refine wpAnyH_done (by kernel_rfl) ?_ _
  go_wp2_with fail
  go_ret
  exact ⟨by simp, HFW.out.trans HF11.out⟩

theorem paramsOk : ∀ t ∈ Tryd.f3.params.toList, Tryd.prog.readableRec t = true ∧ t < Tryd.prog.types.size := fun t ht => by
  have h := List.all_eq_true.1 (show (Tryd.f3.params.toList.all fun t => Tryd.prog.readableRec t && decide (t < Tryd.prog.types.size)) = true by kernel_rfl) t ht
  simpa using h
theorem paramsPlain : ∀ (j : Nat) t, Tryd.f3.params[j]? = some t → Tryd.prog.wantsStandIn t = false := fun j t ht => by
  have h := List.all_eq_true.1 (show (Tryd.f3.params.toList.all fun t => !Tryd.prog.wantsStandIn t) = true by kernel_rfl) t (by simpa using Array.mem_of_getElem? ht)
  simpa using h

set_option maxRecDepth 100000 in
theorem contract (H : Type) (enc : TypeId × Value → H) (W : World) (args : Array Value) (ds gs : List (DataW H)) (before : List MemPlace)
    (base : Nat) (hval : ∀ (j : Nat) t v, Tryd.f3.params[j]? = some t → args[j]? = some v → Value.okWide Tryd.prog W .any base t v)
    (hW : DataW.Whole enc Tryd.prog Tryd.f3.params.toList Rows.snapPacksSpec.vars false W args.toList ds gs before) (hL : laidMetH Tryd.prog Rows.snapPacksRow.laid W) :
    Calls Tryd.prog 3 args W fun e W' => ∃ v, e = .returned v ∧ Rows.snapPacksSpec.post enc Tryd.prog Tryd.f3 false true false false W args v W' := by
  have hW' := hW
  obtain ⟨p, q, hA, hV, rfl, _, _⟩ := hW
  rw [Tryd.params3] at hA hval
  obtain ⟨v0, vs0, d0, ds0, p0, q0, hargs, rfl, rfl, h0, r0⟩ := trodAll_cons hA
  obtain ⟨v1, vs1, d1, ds1, p1, q1, rfl, rfl, rfl, h1, r1⟩ := trodAll_cons r0
  obtain ⟨rfl, rfl, rfl⟩ := trodAll_nil r1
  obtain rfl : args = #[v0, v1] := by cases args; simp_all
  obtain ⟨rfl, rfl⟩ := trodVars_none hV
  obtain ⟨A, c, a, rfl, hr, hA1, hac, hc⟩ := open_bytes (hval 0 _ v0 rfl rfl) h0
  obtain ⟨B, c', b, rfl, hr', hA1', hac', hc'⟩ := open_bytes (hval 1 _ v1 rfl rfl) h1
  have walk := walk W (table hL) A c a B c' b ⟨hr, hA1⟩ hac hc ⟨hr', hA1'⟩ hac' hc'
  refine walk.mono fun e W' ⟨he, hf⟩ => ?_
  subst he
  exact ⟨_, rfl, law_post laidOut paramsOk rfl rfl Tryd.underlying4 hW' rfl rfl rfl hf⟩

theorem laid_met (os : Os) : laidMet Tryd.prog Rows.snapPacksRow.laid ((laidWorld os).forCall (fun _ _ => 0) ⟨#[], #[.slice none 0 0, .slice none 0 0], []⟩).memory :=
  laidMet_of_run' 20 (by kernel_rfl) (by kernel_rfl)
theorem reads (os : Os) {H : Type} (enc : TypeId × Value → H) : ∃ places, DataW.whole enc Tryd.prog ((laidWorld os).forCall (fun _ _ => 0) ⟨#[], #[.slice none 0 0, .slice none 0 0], []⟩).memory Tryd.f3.params.toList Rows.snapPacksSpec.vars false (#[.slice none 0 0, .slice none 0 0] : Array Value).toList 8 = some ([.nil, .nil], [], places) :=
  ⟨[], by kernel_rfl⟩

set_option maxRecDepth 100000 in
theorem lifted (os : Os) (started : os.Started) (H : Type) (enc : TypeId × Value → H) (F : Stop.Interp) :
    ReturnsInHanded {} Tryd.checked os 3 .any ((OpenSpec.ofChange Rows.snapPacksSpec).preRow enc Tryd.prog Tryd.f3 Rows.snapPacksRow.domain false Rows.snapPacksRow.laid) (((OpenSpec.ofChange Rows.snapPacksSpec).at F).post enc Tryd.prog Tryd.f3 false true false false) := by
  obtain ⟨places, hx⟩ := reads os enc
  refine returnsInHanded_of_row (C := Tryd.checked) (s := OpenSpec.ofChange Rows.snapPacksSpec) own started (by kernel_rfl) Tryd.func3
    (witness_row_at (enc := enc) (C := Tryd.checked) false (laidWorld os) #[.slice none 0 0, .slice none 0 0] rfl (by kernel_rfl) (by kernel_rfl) (by kernel_rfl)
      (OpenSpec.preRow_of_cond 8 hx (by kernel_rfl) (fun k hk => by cases hk) (by kernel_rfl) (laid_met os))) ?_
  intro W base args ds gs before hval hW _ _ _ hL _ _
  exact contract H enc W args ds gs before base hval hW hL

theorem said : Rows.SnapPacksSaid :=
  OpenClaim.holds_of_cond 3 Tryd.f3 rfl rfl rfl rfl rfl rfl rfl ⟨rfl, rfl, rfl, rfl, rfl⟩ rfl rfl rfl rfl rfl (by kernel_rfl) Tryd.func3 (by kernel_rfl)
    (of_decide_eq_true (by kernel_rfl)) (by unfold Func.isWrapper; first | (rw [if_pos (by decide +kernel)]; kernel_rfl) | (rw [if_neg (by decide +kernel)]; exact ⟨rfl, rfl⟩))
    (fun os started H enc _ F => by rw [OpenClaim.pre_eq_preRow]; exact lifted os started H enc F)

theorem plain (f : FuncId) (fn : Func) (hf : Tryd.pinned.checked.prog.funcNamed "argosy/argosylaw08.SnapPacks" = some f) (hfn : Tryd.pinned.checked.prog.funcs[f]? = some fn) :
    false = Tryd.pinned.checked.prog.looks [] ∧ ∀ (j : Nat) t, fn.params[j]? = some t → Tryd.pinned.checked.prog.wantsStandIn t = false := by
  obtain rfl : f = 3 := Option.some.inj ((show Tryd.prog.funcNamed "argosy/argosylaw08.SnapPacks" = some 3 by kernel_rfl).symm.trans hf) |>.symm
  obtain rfl : fn = Tryd.f3 := (Option.some.inj (Tryd.func3.symm.trans hfn)).symm
  exact ⟨by kernel_rfl, paramsPlain⟩

theorem card : Rows.SnapPacksCardSaid :=
  Claim7.holds_tied_plain_at .later [] _ _ _ _ said (fun _ h => by cases h) (by kernel_rfl) (fun _ h => by cases h) snapPacks_row_tie rfl ⟨rfl, rfl⟩ (by kernel_rfl) rfl plain (by kernel_rfl)
end Go.Proofs.YtokonhcphhpogaaDoor.snapPacks
