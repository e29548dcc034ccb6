/- The program's Read: what was read, if its bytes are the bytes. Conditions: the table holds its numbers, there are few bytes. -/
import Derived.Test.YtdpjmkgjjhcgeaaDoorRMsg
import Derived.Test.YtdpjmkgjjhcgeaaDoorWr
namespace Go.Proofs.YtdpjmkgjjhcgeaaDoor
open Go.RowKit

theorem equalB_any (w : World) (A B : Option Addr) (n m c d : Nat) (l k : Bs) (hn : n = l.length) (hm : m = k.length) (hr : Rd w A (cb l)) (hs : Rd w B (cb k)) :
    Calls Tryd.prog 30 #[.slice A n c, .slice B m d] w fun e w' => e = .returned (.bool (l == k)) ∧ w' = w := by
  have q1 := strBs w A n c l hn hr
  have q2 := strBs w B m d k hm hs
  have e1 := bstr_toList l
  have e2 := bstr_toList k
  clear hn hm hr hs
  go_enter Tryd.func30, Tryd.ntmps30
  go_wp2
  go_ret
  exact ⟨rfl, rfl⟩
theorem inn_of {w : World} {base : Nat} {m : Mg} {l : List UInt8} (ho : w.ownsRow base 48 3 (.slice m.va m.votes.length m.vc) m.votes.length (vtsc m.votes)) (hof : MOf m (rMsg l).1) (hl : l.length ≤ 1000000) : MgIn w m := by
  obtain ⟨h1, h2, h3, h4⟩ := rMsg_all 1000000 l hl
  have hv : ∀ v ∈ m.votes, ∃ p ∈ (rMsg l).1.votes, v = Vt.of p := fun v hv => by
    rw [hof.votes] at hv
    obtain ⟨p, hp, e⟩ := List.mem_map.1 hv
    exact ⟨p, hp, e.symm⟩
  refine ⟨Rd.of_ownN ho, own_lens ho, ⟨by rw [hof.value]; exact Nat.le_trans h1 (by decide), fun v hvm => ?_⟩, ⟨by rw [hof.ballot]; unfold two64; omega, fun v hvm => ?_⟩, by rw [hof.kind]; exact sm_nB _, by rw [hof.frm]; exact sm_nB _, by rw [hof.dst]; exact sm_nB _, by rw [hof.grp]; exact sm_nB _, by rw [hof.slot]; exact sm_nB _, fun v hvm => ?_⟩
  · obtain ⟨p, hp, rfl⟩ := hv v hvm
    exact Nat.le_trans (h4 p hp).2 (by decide)
  · obtain ⟨p, hp, rfl⟩ := hv v hvm
    have := (h4 p hp).1
    show p.ballot < two64
    unfold two64
    omega
  · obtain ⟨p, hp, rfl⟩ := hv v hvm
    exact sm_nB _
theorem few_of {m : Mg} {l : List UInt8} (hof : MOf m (rMsg l).1) (hl : l.length ≤ 1000000) : m.votes.length ≤ 64 := by
  rw [hof.votes, List.length_map]
  exact (rMsg_all 1000000 l hl).2.2.1
def ReadPost (w : World) (l : List UInt8) (e : Ending) (w' : World) : Prop :=
  ∃ m, MgIn w' m ∧ MOf m (rMsg l).1 ∧ Fr NoBlk w w' ∧ e = .returned (if (rightM m && (msgB m == l)) = true then .tuple #[mgv m, .int .i64 0] else .tuple #[.agg zRef, .int .i64 31])

set_option maxRecDepth 100000 in
set_option maxHeartbeats 16000000 in
theorem read_any (w : World) (ht : Tab w) (A : Option Addr) (n c : Nat) (l : List UInt8) (hn : n = l.length) (hr : Rd w A (cb l)) (hA : A = none → c = 0) (hl : l.length ≤ 1000000) :
    Calls Tryd.prog 14 #[.slice A n c] w (ReadPost w l) := by
  obtain ⟨w0, hw0⟩ : ∃ w0, w0 = w.alloc (.cells zRef 26) := ⟨_, rfl⟩
  have HF0 : Hid (Fr NoBlk w w0) := by
    show Fr _ _ _
    rw [hw0]
    exact (Fr.refl _ _).alloc _
  have HR0 : Hid (Bk w0 w.heap.size 26 zRef) := by
    show Bk _ _ _ _
    rw [hw0]
    exact Bk.new w _ _
  have HT := Lib.hid ht
  have HRD := Lib.hid hr
  have HNL := Lib.hid hn
  have HLE := Lib.hid hl
  have K1 := Lib.hid (newEye_any w0 A n c l hn (hr.nofr HF0.out) hA (by omega))
  clear hr hl hA hn ht
  unfold zRef at hw0
  go_enter Tryd.func14, Tryd.ntmps14
  go_upto_region 1 with fail
  rw [← hw0]
  clear hw0
  go_wp2_with fail
  refine K1.out.mono ?_
  clear K1
  rintro e w1 ⟨ge, A', c', rfl, hey, hf1, hge, hrow⟩
  obtain ⟨w2, hw2⟩ : ∃ w2, w2 = w1.alloc (.cells #[.pointer (some ⟨ge, 0, none⟩)] 66) := ⟨_, rfl⟩
  have hf12 : Fr NoBlk w1 w2 := by
    rw [hw2]
    exact (Fr.refl _ _).alloc _
  have HF2 := Lib.hid ((HF0.out.trans hf1).trans hf12)
  have HR2 := Lib.hid ((HR0.out.fr hf1 (fun h => h)).fr hf12 (fun h => h))
  have HRE : Hid (RE w2 w1.heap.size ge l) := RE.fr (w := w1) ⟨hey.bk.lt, HLE.out, Nat.le_refl _, A', c', hey, fun k hk => (hrow k hk).2⟩ hf12 (fun _ _ h => h)
  have HGE : Hid (w.heap.size < ge) := by
    have := HR0.out.lt
    show _ < _
    omega
  have HB2 : Hid (Bk w2 w1.heap.size 66 #[.pointer (some ⟨ge, 0, none⟩)]) := by
    show Bk _ _ _ _
    rw [hw2]
    exact Bk.new w1 _ _
  have HW2 := Lib.hid hw2
  clear hey hf1 hge hrow hw2 hf12 HF0 HR0
  go_upto_region 2 with fail
  rw [← HW2.out]
  clear HW2
  have c0 : w2.cell? ⟨w1.heap.size, 0, none⟩ = some (.pointer (some ⟨ge, 0, none⟩)) := HB2.out.cell 0
  have K2 := Lib.hid (rmsg_any w2 _ ge l HRE.out)
  unfold rv at K2
  go_wp2_with fail
  refine K2.out.mono ?_
  clear K2
  rintro e w3 ⟨m, rfl, how⟩
  have HOF := Lib.hid how.of_
  obtain ⟨w4, hw4⟩ : ∃ w4, w4 = w3.alloc (.cells (mga m) 26) := ⟨_, rfl⟩
  have hf34 : Fr NoBlk w3 w4 := by
    rw [hw4]
    exact (Fr.refl _ _).alloc _
  have HF4 : Hid (Fr NoBlk w w4) := (HF2.out.step how.fr (fun k hk e => by have := HGE.out; omega)).trans hf34
  have HR4 := Lib.hid ((HR2.out.fr how.fr (by have := HGE.out; omega)).fr hf34 (fun h => h))
  have HO4 := Lib.hid (own_fr how.own hf34 (fun _ _ h => h))
  have HB4 : Hid (Bk w4 w3.heap.size 26 (mga m)) := by
    show Bk _ _ _ _
    rw [hw4]
    exact Bk.new w3 _ _
  obtain ⟨g5, hg5⟩ : ∃ g5, g5 = w3.heap.size := ⟨_, rfl⟩
  rw [← hg5] at HB4
  unfold mga at hw4
  unfold mgv mga
  have HW4 := Lib.hid hw4
  have HG5 := Lib.hid hg5
  clear how hf34 hw4 hg5 HF2 HR2 HB2 HRE c0
  go_upto_region 3 with fail
  rw [← HW4.out, ← HG5.out]
  clear HW4 HG5
  obtain ⟨d0, d1, d2, d3, d4, d5, d6, d7⟩ := HB4.out.msg
  have HI4 := Lib.hid (inn_of HO4.out HOF.out HLE.out)
  have K3 := Lib.hid (write_any w4 (HT.out.fr HF4.out fun h => h) m HI4.out)
  unfold mgv mga WritePost at K3
  go_wp2_with fail
  refine K3.out.mono ?_
  clear K3 d0 d1 d2 d3 d4 d5 d6 d7
  intro e w5 hp
  by_cases hra : rightM m = true
  rotate_left
  · rw [if_neg hra] at hp
    obtain ⟨rfl, hf5⟩ := hp
    have HF5 := Lib.hid (HF4.out.trans hf5)
    have HR5 := Lib.hid (HR4.out.fr hf5 (fun h => h))
    have HO5 := Lib.hid (own_fr HO4.out hf5 (fun _ _ h => h))
    have HCO : Hid ((rightM m && (msgB m == l)) = false) := by
      show _ = _
      rw [Bool.eq_false_iff.2 hra, Bool.false_and]
    clear hf5 hra HF4 HR4 HO4 HB4 HI4
    have r0 : w5.cell? ⟨w.heap.size, 0, none⟩ = some (.int .i64 0) := HR5.out.cell 0
    have s0 := HR5.out.free 0
    have r1 : w5.cell? ⟨w.heap.size, 1, none⟩ = some (.int .i64 0) := HR5.out.cell 1
    have s1 := HR5.out.free 1
    have r2 : w5.cell? ⟨w.heap.size, 2, none⟩ = some (.int .i64 0) := HR5.out.cell 2
    have s2 := HR5.out.free 2
    have r3 : w5.cell? ⟨w.heap.size, 3, none⟩ = some (.int .i64 0) := HR5.out.cell 3
    have s3 := HR5.out.free 3
    have r4 : w5.cell? ⟨w.heap.size, 4, none⟩ = some (.int .i64 0) := HR5.out.cell 4
    have s4 := HR5.out.free 4
    have r5 : w5.cell? ⟨w.heap.size, 5, none⟩ = some (.int .u64 0) := HR5.out.cell 5
    have s5 := HR5.out.free 5
    have r6 : w5.cell? ⟨w.heap.size, 6, none⟩ = some (.string { data := #[] }) := HR5.out.cell 6
    have s6 := HR5.out.free 6
    have r7 : w5.cell? ⟨w.heap.size, 7, none⟩ = some (.slice none 0 0) := HR5.out.cell 7
    have s7 := HR5.out.free 7
    obtain ⟨wz, hwz⟩ : ∃ wz, wz = ((((((((w5.setCell ⟨w.heap.size, 0, none⟩ (.int .i64 0)).setCell ⟨w.heap.size, 1, none⟩ (.int .i64 0)).setCell ⟨w.heap.size, 2, none⟩ (.int .i64 0)).setCell ⟨w.heap.size, 3, none⟩ (.int .i64 0)).setCell ⟨w.heap.size, 4, none⟩ (.int .i64 0)).setCell ⟨w.heap.size, 5, none⟩ (.int .u64 0)).setCell ⟨w.heap.size, 6, none⟩ (.string { data := #[] })).setCell ⟨w.heap.size, 7, none⟩ (.slice none 0 0)) := ⟨_, rfl⟩
    have hfz : Fr (fun k => k = w.heap.size) w5 wz := by
      rw [hwz]
      exact (((((((((Fr.refl (fun k => k = w.heap.size) w5).setCell (p := ⟨w.heap.size, 0, none⟩) (fun _ => rfl) _).setCell (p := ⟨w.heap.size, 1, none⟩) (fun _ => rfl) _).setCell (p := ⟨w.heap.size, 2, none⟩) (fun _ => rfl) _).setCell (p := ⟨w.heap.size, 3, none⟩) (fun _ => rfl) _).setCell (p := ⟨w.heap.size, 4, none⟩) (fun _ => rfl) _).setCell (p := ⟨w.heap.size, 5, none⟩) (fun _ => rfl) _).setCell (p := ⟨w.heap.size, 6, none⟩) (fun _ => rfl) _).setCell (p := ⟨w.heap.size, 7, none⟩) (fun _ => rfl) _)
    have HBZ : Hid (Bk wz w.heap.size 26 #[.int .i64 0, .int .i64 0, .int .i64 0, .int .i64 0, .int .i64 0, .int .u64 0, .string { data := #[] }, .slice none 0 0]) := by
      show Bk _ _ _ _
      rw [hwz]
      refine Bk.cast ((((((((HR5.out.put 0 (.int .i64 0)).put 1 (.int .i64 0)).put 2 (.int .i64 0)).put 3 (.int .i64 0)).put 4 (.int .i64 0)).put 5 (.int .u64 0)).put 6 (.string { data := #[] })).put 7 (.slice none 0 0)) ?_
      unfold zRef
      simp only [List.setIfInBounds_toArray, List.set_cons_zero, List.set_cons_succ]
    have HFIN : Hid (ReadPost w l (.returned (.tuple #[.agg zRef, .int .i64 31])) wz) :=
      ⟨m, inn_of (own_fr HO5.out hfz (fun k hk e => own_apart HO5.out HR5.out (by decide) (e ▸ hk))) HOF.out HLE.out, HOF.out, (HF5.out).step hfz (fun k hk e => by omega), by rw [HCO.out, if_neg (by decide : ¬ false = true)]⟩
    have HWZ := Lib.hid hwz
    clear hwz hfz
    go_wp2_with fail
    rw [← HWZ.out]
    clear HWZ
    have z0 : wz.cell? ⟨w.heap.size, 0, none⟩ = some (.int .i64 0) := HBZ.out.cell 0
    have z1 : wz.cell? ⟨w.heap.size, 1, none⟩ = some (.int .i64 0) := HBZ.out.cell 1
    have z2 : wz.cell? ⟨w.heap.size, 2, none⟩ = some (.int .i64 0) := HBZ.out.cell 2
    have z3 : wz.cell? ⟨w.heap.size, 3, none⟩ = some (.int .i64 0) := HBZ.out.cell 3
    have z4 : wz.cell? ⟨w.heap.size, 4, none⟩ = some (.int .i64 0) := HBZ.out.cell 4
    have z5 : wz.cell? ⟨w.heap.size, 5, none⟩ = some (.int .u64 0) := HBZ.out.cell 5
    have z6 : wz.cell? ⟨w.heap.size, 6, none⟩ = some (.string { data := #[] }) := HBZ.out.cell 6
    have z7 : wz.cell? ⟨w.heap.size, 7, none⟩ = some (.slice none 0 0) := HBZ.out.cell 7
    refine bodyPost_ret (v := .tuple #[.agg zRef, .int .i64 31]) ?_ rfl HFIN.out
    unfold zRef
    simp [results, Tryd.results14, go_sem, z0, z1, z2, z3, z4, z5, z6, z7]
  rw [if_pos hra] at hp
  obtain ⟨v5, rfl, hn5⟩ := hp
  obtain ⟨A5, c5, rfl, hc5, hA5⟩ := own_form hn5.own
  have HR5b := Lib.hid (Rd.of_own hn5.own)
  have HF5 := Lib.hid (HF4.out.trans hn5.fr)
  have HR5 := Lib.hid (HR4.out.fr hn5.fr (fun h => h))
  have HO5 := Lib.hid (own_fr HO4.out hn5.fr (fun _ _ h => h))
  have HB5 := Lib.hid (HB4.out.fr hn5.fr (fun h => h))
  have HRA := Lib.hid hra
  clear hn5 hc5 hA5 hra HF4 HR4 HO4 HB4 HI4
  have K4 := Lib.hid (equalB_any w5 A5 A (msgB m).length n c5 c (msgB m) l rfl HNL.out HR5b.out (HRD.out.nofr HF5.out))
  go_wp2_with fail
  refine K4.out.mono ?_
  clear K4
  rintro e w6 ⟨rfl, hw6⟩
  rw [hw6]
  clear hw6 HR5b
  cases hb : (msgB m == l)
  · have HCO : Hid ((rightM m && (msgB m == l)) = false) := by
      show _ = _
      rw [hb, Bool.and_false]
    clear hb
    have r0 : w5.cell? ⟨w.heap.size, 0, none⟩ = some (.int .i64 0) := HR5.out.cell 0
    have s0 := HR5.out.free 0
    have r1 : w5.cell? ⟨w.heap.size, 1, none⟩ = some (.int .i64 0) := HR5.out.cell 1
    have s1 := HR5.out.free 1
    have r2 : w5.cell? ⟨w.heap.size, 2, none⟩ = some (.int .i64 0) := HR5.out.cell 2
    have s2 := HR5.out.free 2
    have r3 : w5.cell? ⟨w.heap.size, 3, none⟩ = some (.int .i64 0) := HR5.out.cell 3
    have s3 := HR5.out.free 3
    have r4 : w5.cell? ⟨w.heap.size, 4, none⟩ = some (.int .i64 0) := HR5.out.cell 4
    have s4 := HR5.out.free 4
    have r5 : w5.cell? ⟨w.heap.size, 5, none⟩ = some (.int .u64 0) := HR5.out.cell 5
    have s5 := HR5.out.free 5
    have r6 : w5.cell? ⟨w.heap.size, 6, none⟩ = some (.string { data := #[] }) := HR5.out.cell 6
    have s6 := HR5.out.free 6
    have r7 : w5.cell? ⟨w.heap.size, 7, none⟩ = some (.slice none 0 0) := HR5.out.cell 7
    have s7 := HR5.out.free 7
    obtain ⟨wz, hwz⟩ : ∃ wz, wz = ((((((((w5.setCell ⟨w.heap.size, 0, none⟩ (.int .i64 0)).setCell ⟨w.heap.size, 1, none⟩ (.int .i64 0)).setCell ⟨w.heap.size, 2, none⟩ (.int .i64 0)).setCell ⟨w.heap.size, 3, none⟩ (.int .i64 0)).setCell ⟨w.heap.size, 4, none⟩ (.int .i64 0)).setCell ⟨w.heap.size, 5, none⟩ (.int .u64 0)).setCell ⟨w.heap.size, 6, none⟩ (.string { data := #[] })).setCell ⟨w.heap.size, 7, none⟩ (.slice none 0 0)) := ⟨_, rfl⟩
    have hfz : Fr (fun k => k = w.heap.size) w5 wz := by
      rw [hwz]
      exact (((((((((Fr.refl (fun k => k = w.heap.size) w5).setCell (p := ⟨w.heap.size, 0, none⟩) (fun _ => rfl) _).setCell (p := ⟨w.heap.size, 1, none⟩) (fun _ => rfl) _).setCell (p := ⟨w.heap.size, 2, none⟩) (fun _ => rfl) _).setCell (p := ⟨w.heap.size, 3, none⟩) (fun _ => rfl) _).setCell (p := ⟨w.heap.size, 4, none⟩) (fun _ => rfl) _).setCell (p := ⟨w.heap.size, 5, none⟩) (fun _ => rfl) _).setCell (p := ⟨w.heap.size, 6, none⟩) (fun _ => rfl) _).setCell (p := ⟨w.heap.size, 7, none⟩) (fun _ => rfl) _)
    have HBZ : Hid (Bk wz w.heap.size 26 #[.int .i64 0, .int .i64 0, .int .i64 0, .int .i64 0, .int .i64 0, .int .u64 0, .string { data := #[] }, .slice none 0 0]) := by
      show Bk _ _ _ _
      rw [hwz]
      refine Bk.cast ((((((((HR5.out.put 0 (.int .i64 0)).put 1 (.int .i64 0)).put 2 (.int .i64 0)).put 3 (.int .i64 0)).put 4 (.int .i64 0)).put 5 (.int .u64 0)).put 6 (.string { data := #[] })).put 7 (.slice none 0 0)) ?_
      unfold zRef
      simp only [List.setIfInBounds_toArray, List.set_cons_zero, List.set_cons_succ]
    have HFIN : Hid (ReadPost w l (.returned (.tuple #[.agg zRef, .int .i64 31])) wz) :=
      ⟨m, inn_of (own_fr HO5.out hfz (fun k hk e => own_apart HO5.out HR5.out (by decide) (e ▸ hk))) HOF.out HLE.out, HOF.out, (HF5.out).step hfz (fun k hk e => by omega), by rw [HCO.out, if_neg (by decide : ¬ false = true)]⟩
    have HWZ := Lib.hid hwz
    clear hwz hfz
    go_wp2_with fail
    rw [← HWZ.out]
    clear HWZ
    have z0 : wz.cell? ⟨w.heap.size, 0, none⟩ = some (.int .i64 0) := HBZ.out.cell 0
    have z1 : wz.cell? ⟨w.heap.size, 1, none⟩ = some (.int .i64 0) := HBZ.out.cell 1
    have z2 : wz.cell? ⟨w.heap.size, 2, none⟩ = some (.int .i64 0) := HBZ.out.cell 2
    have z3 : wz.cell? ⟨w.heap.size, 3, none⟩ = some (.int .i64 0) := HBZ.out.cell 3
    have z4 : wz.cell? ⟨w.heap.size, 4, none⟩ = some (.int .i64 0) := HBZ.out.cell 4
    have z5 : wz.cell? ⟨w.heap.size, 5, none⟩ = some (.int .u64 0) := HBZ.out.cell 5
    have z6 : wz.cell? ⟨w.heap.size, 6, none⟩ = some (.string { data := #[] }) := HBZ.out.cell 6
    have z7 : wz.cell? ⟨w.heap.size, 7, none⟩ = some (.slice none 0 0) := HBZ.out.cell 7
    refine bodyPost_ret (v := .tuple #[.agg zRef, .int .i64 31]) ?_ rfl HFIN.out
    unfold zRef
    simp [results, Tryd.results14, go_sem, z0, z1, z2, z3, z4, z5, z6, z7]
  · have HCO : Hid ((rightM m && (msgB m == l)) = true) := by
      show _ = _
      rw [hb, HRA.out]
      rfl
    clear hb
    obtain ⟨d0, d1, d2, d3, d4, d5, d6, d7⟩ := HB5.out.msg
    have r0 : w5.cell? ⟨w.heap.size, 0, none⟩ = some (.int .i64 0) := HR5.out.cell 0
    have s0 := HR5.out.free 0
    have r1 : w5.cell? ⟨w.heap.size, 1, none⟩ = some (.int .i64 0) := HR5.out.cell 1
    have s1 := HR5.out.free 1
    have r2 : w5.cell? ⟨w.heap.size, 2, none⟩ = some (.int .i64 0) := HR5.out.cell 2
    have s2 := HR5.out.free 2
    have r3 : w5.cell? ⟨w.heap.size, 3, none⟩ = some (.int .i64 0) := HR5.out.cell 3
    have s3 := HR5.out.free 3
    have r4 : w5.cell? ⟨w.heap.size, 4, none⟩ = some (.int .i64 0) := HR5.out.cell 4
    have s4 := HR5.out.free 4
    have r5 : w5.cell? ⟨w.heap.size, 5, none⟩ = some (.int .u64 0) := HR5.out.cell 5
    have s5 := HR5.out.free 5
    have r6 : w5.cell? ⟨w.heap.size, 6, none⟩ = some (.string { data := #[] }) := HR5.out.cell 6
    have s6 := HR5.out.free 6
    have r7 : w5.cell? ⟨w.heap.size, 7, none⟩ = some (.slice none 0 0) := HR5.out.cell 7
    have s7 := HR5.out.free 7
    obtain ⟨wz, hwz⟩ : ∃ wz, wz = ((((((((w5.setCell ⟨w.heap.size, 0, none⟩ (.int .i64 m.kind)).setCell ⟨w.heap.size, 1, none⟩ (.int .i64 m.frm)).setCell ⟨w.heap.size, 2, none⟩ (.int .i64 m.dst)).setCell ⟨w.heap.size, 3, none⟩ (.int .i64 m.grp)).setCell ⟨w.heap.size, 4, none⟩ (.int .i64 m.slot)).setCell ⟨w.heap.size, 5, none⟩ (.int .u64 (m.ballot : Int))).setCell ⟨w.heap.size, 6, none⟩ (.string (bstr m.value))).setCell ⟨w.heap.size, 7, none⟩ (.slice m.va m.votes.length m.vc)) := ⟨_, rfl⟩
    have hfz : Fr (fun k => k = w.heap.size) w5 wz := by
      rw [hwz]
      exact (((((((((Fr.refl (fun k => k = w.heap.size) w5).setCell (p := ⟨w.heap.size, 0, none⟩) (fun _ => rfl) _).setCell (p := ⟨w.heap.size, 1, none⟩) (fun _ => rfl) _).setCell (p := ⟨w.heap.size, 2, none⟩) (fun _ => rfl) _).setCell (p := ⟨w.heap.size, 3, none⟩) (fun _ => rfl) _).setCell (p := ⟨w.heap.size, 4, none⟩) (fun _ => rfl) _).setCell (p := ⟨w.heap.size, 5, none⟩) (fun _ => rfl) _).setCell (p := ⟨w.heap.size, 6, none⟩) (fun _ => rfl) _).setCell (p := ⟨w.heap.size, 7, none⟩) (fun _ => rfl) _)
    have HBZ : Hid (Bk wz w.heap.size 26 #[.int .i64 m.kind, .int .i64 m.frm, .int .i64 m.dst, .int .i64 m.grp, .int .i64 m.slot, .int .u64 (m.ballot : Int), .string (bstr m.value), .slice m.va m.votes.length m.vc]) := by
      show Bk _ _ _ _
      rw [hwz]
      refine Bk.cast ((((((((HR5.out.put 0 (.int .i64 m.kind)).put 1 (.int .i64 m.frm)).put 2 (.int .i64 m.dst)).put 3 (.int .i64 m.grp)).put 4 (.int .i64 m.slot)).put 5 (.int .u64 (m.ballot : Int))).put 6 (.string (bstr m.value))).put 7 (.slice m.va m.votes.length m.vc)) ?_
      unfold zRef
      simp only [List.setIfInBounds_toArray, List.set_cons_zero, List.set_cons_succ]
    have HFIN : Hid (ReadPost w l (.returned (.tuple #[mgv m, .int .i64 0])) wz) :=
      ⟨m, inn_of (own_fr HO5.out hfz (fun k hk e => own_apart HO5.out HR5.out (by decide) (e ▸ hk))) HOF.out HLE.out, HOF.out, (HF5.out).step hfz (fun k hk e => by omega), by rw [HCO.out, if_pos rfl]⟩
    have HWZ := Lib.hid hwz
    clear hwz hfz
    go_wp2_with fail
    rw [← HWZ.out]
    clear HWZ
    have z0 : wz.cell? ⟨w.heap.size, 0, none⟩ = some (.int .i64 m.kind) := HBZ.out.cell 0
    have z1 : wz.cell? ⟨w.heap.size, 1, none⟩ = some (.int .i64 m.frm) := HBZ.out.cell 1
    have z2 : wz.cell? ⟨w.heap.size, 2, none⟩ = some (.int .i64 m.dst) := HBZ.out.cell 2
    have z3 : wz.cell? ⟨w.heap.size, 3, none⟩ = some (.int .i64 m.grp) := HBZ.out.cell 3
    have z4 : wz.cell? ⟨w.heap.size, 4, none⟩ = some (.int .i64 m.slot) := HBZ.out.cell 4
    have z5 : wz.cell? ⟨w.heap.size, 5, none⟩ = some (.int .u64 (m.ballot : Int)) := HBZ.out.cell 5
    have z6 : wz.cell? ⟨w.heap.size, 6, none⟩ = some (.string (bstr m.value)) := HBZ.out.cell 6
    have z7 : wz.cell? ⟨w.heap.size, 7, none⟩ = some (.slice m.va m.votes.length m.vc) := HBZ.out.cell 7
    refine bodyPost_ret (v := .tuple #[mgv m, .int .i64 0]) ?_ rfl HFIN.out
    unfold mgv mga
    simp [results, Tryd.results14, go_sem, z0, z1, z2, z3, z4, z5, z6, z7]
end Go.Proofs.YtdpjmkgjjhcgeaaDoor
