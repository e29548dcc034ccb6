/- The document's example of layer 14. No condition. -/
import Derived.Test.YthdbpbcllhgeoaaFlt3
namespace Go.Proofs.Ythdbpbcllhgeoaa
open Go.RowKit Go.Maps

def exM (h : Int) : List Mk := [⟨[], h, 0⟩]
def exI (h : Int) (A : Option Addr) : Im := ⟨1, 0, ⟨0, 0, 0, 0, ⟨1, none, 0, [], none, 0, [], none, 0, [], 0⟩, A, 1, exM h⟩⟩
theorem exHomes (h : Int) : homesOf (exM h) = [h] := by
  refine (homesOf_is (by simp [exM])).unique ⟨by unfold UpI; simp, fun a => ?_⟩
  simp [exM, homesI]
theorem ex_in {w : World} {h : Int} {g : Nat} {T : TypeId} (k : Bk w g T (mksc (exM h)).toArray) : OdIn w (exI h (some ⟨g, 0, none⟩)).o := by
  refine ⟨⟨Rd.none_ _ _, Rd.none_ _ _, Rd.none_ _ _, (fun x hx => by cases hx), ⟨(fun x hx => by cases hx), (fun x hx => by cases hx)⟩, ⟨Nat.le_refl _, Nat.zero_le _, fun _ => rfl⟩, ⟨Nat.le_refl _, Nat.zero_le _, fun _ => rfl⟩, ⟨Nat.le_refl _, Nat.zero_le _, fun _ => rfl⟩⟩, Rd.of_cells k, ⟨Nat.le_refl _, by show 1 ≤ maxLen; decide, fun h => by cases h⟩, fun m hm => ?_, by show 0 < two64; decide, by show 0 < two64; decide, fun m hm => ?_⟩
  · simp only [exI, exM, List.mem_cons, List.not_mem_nil, or_false] at hm
    rcases hm with rfl
    exact Nat.zero_le _
  · simp only [exI, exM, List.mem_cons, List.not_mem_nil, or_false] at hm
    rcases hm with rfl
    show 0 < two64
    decide
theorem exRun (h : Int) (A : Option Addr) : runB (exI h A) = true := by
  show (decide ((1 : Int) = 1) && (decide ((1 : Int) = 1) && decide ((homesOf (exM h)).length = 1))) = true
  rw [exHomes]
  rfl
theorem exHome (h rg : Int) (A : Option Addr) : homeB rg (exI h A) = decide (h = rg) := by
  show (homesOf (exM h)).contains rg = _
  rw [exHomes]
  simp [eq_comm]

set_option maxRecDepth 100000 in
set_option maxHeartbeats 2000000 in
theorem speaks_any (w : World) : Calls Try.prog 12 #[] w fun e w' => e = .returned (.bool true) ∧ Fr NoBlk w w' := by
  have HN := Lib.hid (fregion_any w 1)
  go_enter Try.func12, Try.ntmps12
  go_wp2_with fail
  refine HN.out.mono ?_
  clear HN
  rintro e w1 ⟨g, bm, rfl, h1, hf1⟩
  obtain ⟨n, hn⟩ : ∃ n, n = w1.heap.size := ⟨_, rfl⟩
  obtain ⟨w2, hw2⟩ : ∃ w2, w2 = (((w1.alloc (.cells (mksc (exM 1)).toArray 63)).alloc (.cells (ima (exI 1 (some ⟨w1.heap.size, 0, none⟩))) 40)).alloc (.cells (mksc (exM 2)).toArray 63)).alloc (.cells (ima (exI 2 (some ⟨w1.heap.size + 1 + 1, 0, none⟩))) 40) := ⟨_, rfl⟩
  have HW := Lib.hid hw2
  have HF2 : Hid (Fr NoBlk w1 w2) := by show Fr _ _ _; rw [hw2]; exact ((((Fr.refl _ _).alloc _).alloc _).alloc _).alloc _
  have HB1 : Hid (Bk w2 n 63 (mksc (exM 1)).toArray) := by show Bk _ _ _ _; rw [hw2, hn]; exact (((Bk.new _ _ _).alloc _).alloc _).alloc _
  have HB2 : Hid (Bk w2 (n + 1) 40 (ima (exI 1 (some ⟨n, 0, none⟩)))) := by show Bk _ _ _ _; rw [hw2, hn]; exact ((Bk.new2 _ _ _ _).alloc _).alloc _
  have HB3 : Hid (Bk w2 (n + 1 + 1) 63 (mksc (exM 2)).toArray) := by
    show Bk _ _ _ _
    rw [hw2, hn]
    refine (Bk.new' _ _ _ ?_).alloc _
    rw [World.size_alloc, World.size_alloc]
  have HB4 : Hid (Bk w2 (n + 1 + 1 + 1) 40 (ima (exI 2 (some ⟨n + 1 + 1, 0, none⟩)))) := by
    show Bk _ _ _ _
    rw [hw2, hn]
    refine Bk.new' _ _ _ ?_
    rw [World.size_alloc, World.size_alloc, World.size_alloc]
  have H2 := Lib.hid (h1.nofr HF2.out)
  have HLT := Lib.hid (And.intro h1.bk.lt (And.intro h1.mp.lt (And.intro h1.b1 h1.b2)))
  have HF1 := Lib.hid hf1
  have HN := Lib.hid hn
  clear h1 hf1 hn hw2
  have tk1 : ∀ h A, TgOk (tgOf (exI h A).o) := fun h A => ⟨by show (Lit.int .i64 0).wf = true; rfl, by show 0 < two64; decide, by show 0 < two64; decide, by show (Lit.int .i64 0).wf = true; rfl⟩
  have HI1 := Lib.hid (fitem_any w2 w.heap.size g bm 0 1 (-1) _ H2.out (by omega) (exI 1 (some ⟨n, 0, none⟩)) (ex_in HB1.out) (by show 1 ≤ 1000; omega) (tk1 _ _))
  have HTK := Lib.hid tk1
  clear tk1
  go_wp2_with fail
  have hk1 := HI1.out
  unfold imv ima exI exM at hk1
  dsimp only at hk1
  rw [HW.out, HN.out] at hk1
  refine hk1.mono ?_
  clear hk1 HI1
  rintro e w3 ⟨rfl, ⟨s3, hs3, H3⟩, hf3⟩
  rw [← HW.out] at hf3
  obtain ⟨L1, L2, L3, L4⟩ := HLT.out
  rw [← HN.out] at L1 L2
  have hno : ∀ k, n ≤ k → ¬ (k = bm ∨ k = g) := fun k hk e => by rcases e with e | e <;> omega
  have HO1 : Hid (∀ W, Fr (fun b => b = bm ∨ b = g) w2 W → OdIn W (exI 1 (some ⟨n, 0, none⟩)).o) := fun W hW => ex_in (HB1.out.fr hW (hno _ (Nat.le_refl _)))
  have HO2 : Hid (∀ W, Fr (fun b => b = bm ∨ b = g) w2 W → OdIn W (exI 2 (some ⟨n + 1 + 1, 0, none⟩)).o) := fun W hW => ex_in (HB3.out.fr hW (hno _ (by omega)))
  have HC1 : Hid (∀ W, Fr (fun b => b = bm ∨ b = g) w2 W → Bk W (n + 1) 40 (ima (exI 1 (some ⟨n, 0, none⟩)))) := fun W hW => HB2.out.fr hW (hno _ (by omega))
  have HC2 : Hid (∀ W, Fr (fun b => b = bm ∨ b = g) w2 W → Bk W (n + 1 + 1 + 1) 40 (ima (exI 2 (some ⟨n + 1 + 1, 0, none⟩)))) := fun W hW => HB4.out.fr hW (hno _ (by omega))
  have HNo := Lib.hid hno
  clear hno HB1 HB2 HB3 HB4 H2
  have e1 : countB 1 (-1) (fun _ => false) (exI 1 (some ⟨n, 0, none⟩)) = true := by unfold countB; rw [exHome, exRun]; rfl
  have e2 : ∀ A, lastB 1 (-1) (exI 1 A) = -1 := fun A => by unfold lastB; rw [exRun]; simp
  have e3 : ∀ (m : Tg → Bool) (A : Option Addr), tagsB 1 m (exI 1 A) = addT m (tgOf (exI 1 A).o) := fun m A => by unfold tagsB; rw [exHome, exRun]; rfl
  have e4 : ∀ (m : Tg → Bool) (A : Option Addr), countB 1 (-1) (addT m (tgOf (exI 1 A).o)) (exI 1 A) = false := fun m A => by unfold countB; rw [exHome, exRun]; simp [addT]
  have e5 : ∀ (m : Tg → Bool) (A : Option Addr), countB 1 (-1) m (exI 2 A) = false := fun m A => by unfold countB; rw [exHome]; rfl
  have e6 : ∀ A, lastB 1 (-1) (exI 2 A) = -1 := fun A => by unfold lastB; rw [exRun]; simp
  rw [← HN.out] at H3 ⊢
  unfold exI exM at e1
  rw [e1]
  have H3 := H3
  change Fl w3 w.heap.size g bm s3 1 (lastB 1 (-1) (exI 1 (some ⟨n, 0, none⟩))) (tagsB 1 (fun _ => false) (exI 1 (some ⟨n, 0, none⟩))) at H3
  rw [e2, e3] at H3
  have HI2 := Lib.hid (fitem_any w3 w.heap.size g bm s3 1 (-1) _ H3 (by omega) (exI 1 (some ⟨n, 0, none⟩)) (HO1.out _ hf3) (by show 1 ≤ 1000; omega) (HTK.out _ _))
  unfold ItemPost at HI2
  rw [e4, e2, e3] at HI2
  have hb1 := HC1.out _ hf3
  unfold ima exI exM at hb1
  have i0 : w3.cell? ⟨n + 1, 0, none⟩ = some (.int .i64 1) := hb1.cell 0
  have i1 : w3.cell? ⟨n + 1, 1, none⟩ = some (.int .i64 0) := hb1.cell 1
  have i2 : w3.cell? ⟨n + 1, 2, none⟩ = some (.int .i64 0) := hb1.cell 2
  have i3 : w3.cell? ⟨n + 1, 3, none⟩ = some (.int .u64 0) := hb1.cell 3
  have i4 : w3.cell? ⟨n + 1, 4, none⟩ = some (.int .u64 0) := hb1.cell 4
  have i5 : w3.cell? ⟨n + 1, 5, none⟩ = some (.int .i64 0) := hb1.cell 5
  have i6 : w3.cell? ⟨n + 1, 6, none⟩ = some (.int .i64 1) := hb1.cell 6
  have i7 : w3.cell? ⟨n + 1, 7, none⟩ = some (.slice none 0 0) := hb1.cell 7
  have i8 : w3.cell? ⟨n + 1, 8, none⟩ = some (.slice none 0 0) := hb1.cell 8
  have i9 : w3.cell? ⟨n + 1, 9, none⟩ = some (.slice none 0 0) := hb1.cell 9
  have i10 : w3.cell? ⟨n + 1, 10, none⟩ = some (.int .i64 0) := hb1.cell 10
  have i11 : w3.cell? ⟨n + 1, 11, none⟩ = some (.slice (some ⟨n, 0, none⟩) 1 1) := hb1.cell 11
  have HF3 := Lib.hid hf3
  have HS3 := Lib.hid hs3
  have HE2 := Lib.hid e2
  have HE5 := Lib.hid e5
  have HE6 := Lib.hid e6
  clear hb1 hf3 hs3 e1 e2 e3 e4 e5 e6 H3 HC1 HW L1 L2 L3 L4
  go_wp2_with fail
  have hk2 := HI2.out
  unfold imv ima exI exM at hk2
  dsimp only at hk2
  refine hk2.mono ?_
  clear hk2 HI2 i0 i1 i2 i3 i4 i5 i6 i7 i8 i9 i10 i11
  rintro e w4 ⟨rfl, ⟨s4, hs4, H4⟩, hf4⟩
  have hf24 := HF3.out.trans hf4
  have HI3 := Lib.hid (fitem_any w4 w.heap.size g bm s4 1 (-1) _ H4 (by have := HS3.out; omega) (exI 2 (some ⟨n + 1 + 1, 0, none⟩)) (HO2.out _ hf24) (by show 1 ≤ 1000; omega) (HTK.out _ _))
  unfold ItemPost at HI3
  rw [HE5.out, HE6.out] at HI3
  have hb1 := HC2.out _ hf24
  unfold ima exI exM at hb1
  have i0 : w4.cell? ⟨n + 1 + 1 + 1, 0, none⟩ = some (.int .i64 1) := hb1.cell 0
  have i1 : w4.cell? ⟨n + 1 + 1 + 1, 1, none⟩ = some (.int .i64 0) := hb1.cell 1
  have i2 : w4.cell? ⟨n + 1 + 1 + 1, 2, none⟩ = some (.int .i64 0) := hb1.cell 2
  have i3 : w4.cell? ⟨n + 1 + 1 + 1, 3, none⟩ = some (.int .u64 0) := hb1.cell 3
  have i4 : w4.cell? ⟨n + 1 + 1 + 1, 4, none⟩ = some (.int .u64 0) := hb1.cell 4
  have i5 : w4.cell? ⟨n + 1 + 1 + 1, 5, none⟩ = some (.int .i64 0) := hb1.cell 5
  have i6 : w4.cell? ⟨n + 1 + 1 + 1, 6, none⟩ = some (.int .i64 1) := hb1.cell 6
  have i7 : w4.cell? ⟨n + 1 + 1 + 1, 7, none⟩ = some (.slice none 0 0) := hb1.cell 7
  have i8 : w4.cell? ⟨n + 1 + 1 + 1, 8, none⟩ = some (.slice none 0 0) := hb1.cell 8
  have i9 : w4.cell? ⟨n + 1 + 1 + 1, 9, none⟩ = some (.slice none 0 0) := hb1.cell 9
  have i10 : w4.cell? ⟨n + 1 + 1 + 1, 10, none⟩ = some (.int .i64 0) := hb1.cell 10
  have i11 : w4.cell? ⟨n + 1 + 1 + 1, 11, none⟩ = some (.slice (some ⟨n + 1 + 1, 0, none⟩) 1 1) := hb1.cell 11
  have HF4 := Lib.hid hf24
  clear hb1 hf4 hf24 hs4 H4 HC2 HO2 HO1
  go_wp2_with fail
  have hk3 := HI3.out
  unfold imv ima exI exM at hk3
  dsimp only at hk3
  refine hk3.mono ?_
  clear hk3 HI3 i0 i1 i2 i3 i4 i5 i6 i7 i8 i9 i10 i11
  rintro e w5 ⟨rfl, ⟨s5, hs5, H5⟩, hf5⟩
  have HL := Lib.hid (flast_any w5 _ _ _ _ _ _ _ H5)
  have HF5 : Hid (Fr NoBlk w w5) := by
    show Fr _ _ _
    refine (HF1.out.trans HF2.out).step (HF4.out.trans hf5) fun i hi e => ?_
    obtain ⟨_, _, l3, l4⟩ := HLT.out
    rcases e with rfl | rfl <;> omega
  clear hs5 H5 hf5
  go_wp2_with fail
  refine HL.out.mono ?_
  rintro e _ ⟨rfl, rfl⟩
  clear HL
  go_wp2_with fail
  go_ret
  exact ⟨rfl, HF5.out⟩
end Go.Proofs.Ythdbpbcllhgeoaa
