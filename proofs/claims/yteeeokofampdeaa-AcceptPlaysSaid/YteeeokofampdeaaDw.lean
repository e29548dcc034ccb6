/- The document's voter: Promise and Accept. No condition but its places. -/
import Derived.Test.YteeeokofampdeaaDv
namespace Go.Proofs.Yteeeokofampdeaa
open Go.RowKit Go.Shelf

def DPromPost (W : World) (m p : Nat) (T : Nat → Bool) (V : Nat → VaT) (bal : Nat) (fr : Int) (e : Ending) (W' : World) : Prop :=
  ∃ A c us, us = (if bal < p then [] else fromL T V fr 64) ∧ e = .returned (.tuple #[.slice A us.length c, .bool (!decide (bal < p))]) ∧ W'.ownsRow W.heap.size 30 3 (.slice A us.length c) us.length (vcs us) ∧ DvIn W' m (if bal < p then p else bal) T V ∧ Fr (fun k => k = m) W W'
set_option maxRecDepth 100000 in
set_option maxHeartbeats 2000000 in
theorem dprom_any (W : World) (m p : Nat) (T : Nat → Bool) (V : Nat → VaT) (h : DvIn W m p T V) (bal : Nat) (fr : Int) :
    Calls Try.prog 10 #[.pointer (some ⟨m, 0, none⟩), .int .u64 (bal : Int), .int .i64 fr] W (DPromPost W m p T V bal fr) := by
  obtain ⟨c0, f0⟩ := h.p_
  have HD := Lib.hid h
  by_cases hb : bal < p
  · have k1 : (bal : Int) < (p : Int) := by omega
    have HP : Hid (DPromPost W m p T V bal fr (.returned (.tuple #[.slice (some ⟨W.heap.size, 0, none⟩) 0 0, .bool false])) (W.alloc (.cells #[] 30))) := by
      refine ⟨_, _, [], by rw [if_pos hb], by rw [decide_eq_true hb]; rfl, World.ownsRow_made W #[] 0 (Nat.le_refl _) (by decide) rfl, ?_, (Fr.refl _ _).alloc _⟩
      rw [if_pos hb]
      exact h.nofr ((Fr.refl _ _).alloc _)
    clear h hb
    go_enter Try.func10, Try.ntmps10
    go_wp2_with fail
    go_ret2
    exact HP.out
  · have k1 : ¬ (bal : Int) < (p : Int) := by omega
    have HN := Lib.hid hb
    have HD1 : Hid (DvIn (W.setCell ⟨m, 0, none⟩ (.int .u64 (bal : Int))) m bal T V) := h.setP bal
    have HF1 : Hid (Fr (fun k => k = m) W (W.setCell ⟨m, 0, none⟩ (.int .u64 (bal : Int)))) := (Fr.refl (fun k => k = m) W).setCell (p := ⟨m, 0, none⟩) (fun _ => rfl) _
    have HFC := Lib.hid (dfrom_any _ m bal T V HD1.out fr)
    clear h hb
    go_enter Try.func10, Try.ntmps10
    go_wp2_with fail
    refine HFC.out.mono ?_
    rintro e w2 ⟨A, c, rfl, ho, hf⟩
    have HP : Hid (DPromPost W m p T V bal fr (.returned (.tuple #[.slice A (fromL T V fr 64).length c, .bool true])) w2) := by
      refine ⟨A, c, _, (if_neg HN.out).symm, by rw [decide_eq_false HN.out]; rfl, own_base ho HF1.out.size, ?_, HF1.out.trans (hf.mono fun _ _ e => e.elim)⟩
      rw [if_neg HN.out]
      exact HD1.out.nofr hf
    clear ho hf HFC
    go_wp2_with fail
    go_ret2
    exact HP.out
/-- the voter behind an Accept. -/
def accT (p : Nat) (T : Nat → Bool) (v : VaT) : Nat → Bool := if takesT p v then (fun i => if i = v.slot.toNat then true else T i) else T
def accV (p : Nat) (V : Nat → VaT) (v : VaT) : Nat → VaT := if takesT p v then (fun i => if i = v.slot.toNat then v else V i) else V
def DAccPost (W : World) (m p : Nat) (T : Nat → Bool) (V : Nat → VaT) (v : VaT) (e : Ending) (W' : World) : Prop :=
  e = .returned (.bool (takesT p v)) ∧ DvIn W' m (if takesT p v then v.bal else p) (accT p T v) (accV p V v) ∧ Fr (fun k => k = m) W W'
set_option maxRecDepth 100000 in
set_option maxHeartbeats 2000000 in
theorem dacc_any (W : World) (m p : Nat) (T : Nat → Bool) (V : Nat → VaT) (h : DvIn W m p T V) (v : VaT) :
    Calls Try.prog 13 #[.pointer (some ⟨m, 0, none⟩), .agg #[.int .i64 v.slot, .int .u64 (v.bal : Int), .string (bstr v.val)]] W (DAccPost W m p T V v) := by
  obtain ⟨q, hq⟩ : ∃ q, q = W.heap.size := ⟨_, rfl⟩
  obtain ⟨w1, hw1⟩ : ∃ w1, w1 = W.alloc (.cells #[.int .i64 v.slot, .int .u64 (v.bal : Int), .string (bstr v.val)] 30) := ⟨_, rfl⟩
  have HF1 : Hid (Fr NoBlk W w1) := by show Fr _ _ _; rw [hw1]; exact (Fr.refl _ _).alloc _
  have HB1 : Hid (Bk w1 q 30 #[.int .i64 v.slot, .int .u64 (v.bal : Int), .string (bstr v.val)]) := by show Bk _ _ _ _; rw [hw1, hq]; exact Bk.new _ _ _
  have H1 := Lib.hid (h.nofr HF1.out)
  have HQ : Hid (q = W.heap.size ∧ m ≠ q) := ⟨hq, by have := h.lt; omega⟩
  obtain ⟨c0, f0⟩ := H1.out.p_
  have d0 : w1.cell? ⟨q, 0, none⟩ = some (.int .i64 v.slot) := HB1.out.cell 0
  have d1 : w1.cell? ⟨q, 1, none⟩ = some (.int .u64 (v.bal : Int)) := HB1.out.cell 1
  have d2 : w1.cell? ⟨q, 2, none⟩ = some (.string (bstr v.val)) := HB1.out.cell 2
  have HD : Hid (takesT p v = (!decide (v.bal < p) && (decide (0 ≤ v.slot) && decide (v.slot < 64)))) := rfl
  have HNO : Hid (takesT p v = false → ∀ n, DAccPost W m p T V v (.returned (.bool false)) (w1.drewN n)) := fun ht n => by
    refine ⟨by rw [ht], ?_, (HF1.out.mono fun _ _ e => e.elim).trans ((Fr.refl _ _).drewN _)⟩
    unfold accT accV
    rw [ht]
    exact H1.out.nofr ((Fr.refl _ _).drewN _)
  have HW1 := Lib.hid hw1
  clear h hq hw1
  go_enter Try.func13, Try.ntmps13
  go_upto_region 1 with fail
  rw [← HW1.out, ← HQ.out.1]
  clear HW1
  by_cases hb : v.bal < p
  · have HT : Hid (takesT p v = false) := by show _ = _; rw [HD.out, decide_eq_true hb]; rfl
    have k1 : (v.bal : Int) < (p : Int) := by omega
    clear hb
    go_quiet (fail)
    go_wp2_with fail
    go_ret
    exact HNO.out HT.out _
  have k1 : ¬ (v.bal : Int) < (p : Int) := by omega
  have HNB := Lib.hid hb
  clear hb
  by_cases hs : v.slot < 0
  · have HT : Hid (takesT p v = false) := by show _ = _; rw [HD.out, decide_eq_false (show ¬ 0 ≤ v.slot by omega), Bool.false_and, Bool.and_false]
    go_quiet (fail)
    go_wp2_with fail
    go_ret
    exact HNO.out HT.out _
  by_cases hs2 : 63 < v.slot
  · have HT : Hid (takesT p v = false) := by show _ = _; rw [HD.out, decide_eq_false (show ¬ v.slot < 64 by omega), Bool.and_false, Bool.and_false]
    go_quiet (fail)
    go_wp2_with fail
    go_ret
    exact HNO.out HT.out _
  have HT : Hid (takesT p v = true) := by show _ = _; rw [HD.out, decide_eq_false HNB.out, decide_eq_true (show 0 ≤ v.slot by omega), decide_eq_true (show v.slot < 64 by omega)]; rfl
  obtain ⟨s, hse⟩ : ∃ s : Nat, v.slot = (s : Int) := ⟨v.slot.toNat, by omega⟩
  have hs64 : s < 64 := by omega
  have HSE : Hid (v.slot.toNat = s ∧ s < 64) := ⟨by omega, hs64⟩
  obtain ⟨vb, hvb⟩ : ∃ vb, vb = v.bal := ⟨_, rfl⟩
  obtain ⟨vv, hvv⟩ : ∃ vv, vv = v.val := ⟨_, rfl⟩
  have HVE : Hid (v = ⟨(s : Int), vb, vv⟩) := by show v = _; rw [← hse, hvb, hvv]
  rw [hse] at hs hs2 d0
  rw [← hvb] at k1 d1
  rw [← hvv] at d2
  have hs3 : (s : Int) < 64 := by omega
  have HNO2 := HNO
  clear HNO HNO2 hse hvb hvv
  go_quiet (fail)
  obtain ⟨w2, hw2⟩ : ∃ w2, w2 = w1.drewN nq := ⟨_, rfl⟩
  have hf2 : Fr NoBlk w1 w2 := by rw [hw2]; exact (Fr.refl _ _).drewN _
  have HF2 : Hid (Fr NoBlk W w2) := HF1.out.trans hf2
  have H2 := Lib.hid (H1.out.nofr hf2)
  have HB2 : Hid (Bk w2 q 30 #[.int .i64 (s : Int), .int .u64 (vb : Int), .string (bstr vv)]) := by
    have e := HVE.out
    have h := HB1.out.fr hf2 (fun e => e)
    rw [e] at h
    exact h
  rw [← hw2]
  clear hw2 hf2 c0 f0 d0 d1 d2 H1 HB1 HF1
  obtain ⟨c0, f0⟩ := H2.out.p_
  have d0 : w2.cell? ⟨q, 0, none⟩ = some (.int .i64 (s : Int)) := HB2.out.cell 0
  have d1 : w2.cell? ⟨q, 1, none⟩ = some (.int .u64 (vb : Int)) := HB2.out.cell 1
  obtain ⟨w3, hw3⟩ : ∃ w3, w3 = w2.setCell ⟨m, 0, none⟩ (.int .u64 (vb : Int)) := ⟨_, rfl⟩
  have H3 : Hid (DvIn w3 m vb T V) := by show DvIn _ _ _ _ _; rw [hw3]; exact H2.out.setP vb
  have HB3 : Hid (Bk w3 q 30 #[.int .i64 (s : Int), .int .u64 (vb : Int), .string (bstr vv)]) := by show Bk _ _ _ _; rw [hw3]; exact HB2.out.far (p := ⟨m, 0, none⟩) (fun e => HQ.out.2 e.symm) _
  have HF3 : Hid (Fr (fun k => k = m) W w3) := by show Fr _ _ _; rw [hw3]; exact Fr.setCell (C := fun k => k = m) (HF2.out.mono fun _ _ e => e.elim) (p := ⟨m, 0, none⟩) (fun _ => rfl) _
  have HW3 := Lib.hid hw3
  clear hw3
  go_upto_region 4 with fail
  rw [← HW3.out]
  clear HW3 c0 f0 d0 d1 H2 HB2 HF2
  have hd3 : Fr NoBlk w3 w3.drew := (Fr.refl NoBlk w3).drew
  have d0 : w3.cell? ⟨q, 0, none⟩ = some (.int .i64 (s : Int)) := HB3.out.cell 0
  have d0' : w3.drew.cell? ⟨q, 0, none⟩ = some (.int .i64 (s : Int)) := (HB3.out.fr hd3 (fun e => e)).cell 0
  obtain ⟨t0, tf⟩ := H3.out.t_ hs64
  obtain ⟨t0', tf'⟩ := (H3.out.nofr hd3).t_ hs64
  obtain ⟨w4, hw4⟩ : ∃ w4, w4 = (w3.setCell ⟨m, 1 + s, none⟩ (.bool true)).drew := ⟨_, rfl⟩
  have hdr : Fr NoBlk (w3.setCell ⟨m, 1 + s, none⟩ (.bool true)) (w3.setCell ⟨m, 1 + s, none⟩ (.bool true)).drew := (Fr.refl NoBlk _).drew
  have H4 : Hid (DvIn w4 m vb (fun i => if i = s then true else T i) V) := by show DvIn _ _ _ _ _; rw [hw4]; exact (H3.out.setT hs64).nofr hdr
  have HB4 : Hid (Bk w4 q 30 #[.int .i64 (s : Int), .int .u64 (vb : Int), .string (bstr vv)]) := by show Bk _ _ _ _; rw [hw4]; exact (HB3.out.far (p := ⟨m, 1 + s, none⟩) (fun e => HQ.out.2 e.symm) _).fr hdr (fun e => e)
  have HF4 : Hid (Fr (fun k => k = m) W w4) := by show Fr _ _ _; rw [hw4]; exact (HF3.out.setCell (p := ⟨m, 1 + s, none⟩) (fun _ => rfl) _).drew
  have HW4 := Lib.hid hw4
  clear hw4 hd3 hdr k1
  go_region
  rw [← HW4.out]
  clear HW4 d0 d0' t0 tf t0' tf' H3 HB3 HF3
  have hd4 : Fr NoBlk w4 w4.drew := (Fr.refl NoBlk w4).drew
  have d0 : w4.cell? ⟨q, 0, none⟩ = some (.int .i64 (s : Int)) := HB4.out.cell 0
  have d1 : w4.cell? ⟨q, 1, none⟩ = some (.int .u64 (vb : Int)) := HB4.out.cell 1
  have d2 : w4.cell? ⟨q, 2, none⟩ = some (.string (bstr vv)) := HB4.out.cell 2
  have d0' : w4.drew.cell? ⟨q, 0, none⟩ = some (.int .i64 (s : Int)) := (HB4.out.fr hd4 (fun e => e)).cell 0
  have d1' : w4.drew.cell? ⟨q, 1, none⟩ = some (.int .u64 (vb : Int)) := (HB4.out.fr hd4 (fun e => e)).cell 1
  have d2' : w4.drew.cell? ⟨q, 2, none⟩ = some (.string (bstr vv)) := (HB4.out.fr hd4 (fun e => e)).cell 2
  obtain ⟨⟨v0, v1, v2⟩, vf⟩ := H4.out.v_ hs64
  obtain ⟨⟨v0', v1', v2'⟩, vf'⟩ := (H4.out.nofr hd4).v_ hs64
  have f0 := vf (65 + s * 3)
  have f1 := vf (65 + s * 3 + 1)
  have f2 := vf (65 + s * 3 + 2)
  have f0' := vf' (65 + s * 3)
  have f1' := vf' (65 + s * 3 + 1)
  have f2' := vf' (65 + s * 3 + 2)
  clear vf vf'
  obtain ⟨w5, hw5⟩ : ∃ w5, w5 = (((w4.setCell ⟨m, 65 + s * 3, none⟩ (.int .i64 (s : Int))).setCell ⟨m, 65 + s * 3 + 1, none⟩ (.int .u64 (vb : Int))).setCell ⟨m, 65 + s * 3 + 2, none⟩ (.string (bstr vv))).drew := ⟨_, rfl⟩
  have H5 : Hid (DAccPost W m p T V v (.returned (.bool true)) w5) := by
    refine ⟨by rw [HT.out], ?_, ?_⟩
    · unfold accT accV
      rw [HT.out, HSE.out.1, hw5]
      have e := HVE.out
      rw [if_pos rfl, if_pos rfl, if_pos rfl, e]
      exact (H4.out.setV hs64 ⟨(s : Int), vb, vv⟩).nofr (Fr.refl NoBlk _).drew
    · rw [hw5]
      exact (((HF4.out.setCell (p := ⟨m, _, none⟩) (fun _ => rfl) _).setCell (p := ⟨m, _, none⟩) (fun _ => rfl) _).setCell (p := ⟨m, _, none⟩) (fun _ => rfl) _).drew
  have HW5 := Lib.hid hw5
  clear hw5 hd4
  go_upto_region 5 with fail
  go_region
  rw [← HW5.out]
  clear HW5
  go_wp2_with fail
  go_ret
  exact H5.out
end Go.Proofs.Yteeeokofampdeaa
