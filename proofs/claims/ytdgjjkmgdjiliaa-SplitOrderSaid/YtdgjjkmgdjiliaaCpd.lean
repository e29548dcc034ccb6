/- Split's copied: an item whose order is new memory. Conditions: the order is small. -/
import Derived.Test.YtdgjjkmgdjiliaaOPCopy
import Derived.Test.YtdgjjkmgdjiliaaFlt3
namespace Go.Proofs.Ytdgjjkmgdjiliaa
open Go.RowKit

def izero : Array Value := #[.int .i64 0, .int .i64 0, .int .i64 0, .int .u64 0, .int .u64 0, .int .i64 0, .int .i64 0, .slice none 0 0, .slice none 0 0, .slice none 0 0, .int .i64 0, .slice none 0 0]
set_option maxRecDepth 100000 in
set_option maxHeartbeats 4000000 in
theorem copied_any (w : World) (i : Im) (ho : OdIn w i.o) (hs : OSmall i.o) : Calls Try.prog 54 #[imv i] w fun e w' => ∃ b, e = .returned (imv ⟨i.kind, i.index, b⟩) ∧ OCpy w w' i.o b := by
  obtain ⟨w1, hw1⟩ : ∃ w1, w1 = (w.alloc (.cells (ima i) 40)).alloc (.cells izero 40) := ⟨_, rfl⟩
  have HF : Hid (Fr NoBlk w w1) := by
    show Fr _ _ _
    rw [hw1]
    exact ((Fr.refl _ _).alloc _).alloc _
  have HB : Hid (Bk w1 w.heap.size 40 (ima i)) := by
    show Bk _ _ _ _
    rw [hw1]
    exact (Bk.new w _ _).alloc _
  have HB2 : Hid (Bk w1 (w.heap.size + 1) 40 izero) := by
    show Bk _ _ _ _
    rw [hw1]
    exact Bk.new2 w _ _ _
  have HSZ : Hid (w1.heap.size = w.heap.size + 2) := by
    show _ = _
    rw [hw1]; simp
  have K1 := Lib.hid (opcopy_any w1 i.o (ho.nofr HF.out) hs)
  clear ho hs
  unfold odv oda at K1
  have c0 : w1.cell? ⟨w.heap.size, 0, none⟩ = some (.int .i64 i.kind) := HB.out.cell 0
  have c1 : w1.cell? ⟨w.heap.size, 1, none⟩ = some (.int .i64 i.index) := HB.out.cell 1
  have c2 : w1.cell? ⟨w.heap.size, 2, none⟩ = some (.int .i64 i.o.node) := HB.out.cell 2
  have c3 : w1.cell? ⟨w.heap.size, 3, none⟩ = some (.int .u64 (i.o.epoch : Int)) := HB.out.cell 3
  have c4 : w1.cell? ⟨w.heap.size, 4, none⟩ = some (.int .u64 (i.o.seq : Int)) := HB.out.cell 4
  have c5 : w1.cell? ⟨w.heap.size, 5, none⟩ = some (.int .i64 i.o.tr) := HB.out.cell 5
  have c6 : w1.cell? ⟨w.heap.size, 6, none⟩ = some (.int .i64 i.o.t.kind) := HB.out.cell 6
  have c7 : w1.cell? ⟨w.heap.size, 7, none⟩ = some (.slice i.o.t.ra i.o.t.reads.length i.o.t.rc) := HB.out.cell 7
  have c8 : w1.cell? ⟨w.heap.size, 8, none⟩ = some (.slice i.o.t.wa i.o.t.writes.length i.o.t.wc) := HB.out.cell 8
  have c9 : w1.cell? ⟨w.heap.size, 9, none⟩ = some (.slice i.o.t.oa i.o.t.ops.length i.o.t.oc) := HB.out.cell 9
  have c10 : w1.cell? ⟨w.heap.size, 10, none⟩ = some (.int .i64 i.o.t.to) := HB.out.cell 10
  have c11 : w1.cell? ⟨w.heap.size, 11, none⟩ = some (.slice i.o.ma i.o.marks.length i.o.mc) := HB.out.cell 11
  unfold ima izero at hw1
  unfold imv ima
  go_enter Try.func54, Try.ntmps54
  go_upto_region 1 with fail
  rw [← hw1]
  clear hw1
  go_wp2_with fail
  refine K1.out.mono ?_
  rintro e w2 ⟨b, rfl, hcp⟩
  have HCP := Lib.hid hcp
  have HB3 := Lib.hid (HB.out.fr hcp.fr (fun h => h))
  have HB4 := Lib.hid (HB2.out.fr hcp.fr (fun h => h))
  clear hcp K1 HB HB2 c0 c1 c2 c3 c4 c5 c6 c7 c8 c9 c10 c11
  have c0 : w2.cell? ⟨w.heap.size, 0, none⟩ = some (.int .i64 i.kind) := HB3.out.cell 0
  have c1 : w2.cell? ⟨w.heap.size, 1, none⟩ = some (.int .i64 i.index) := HB3.out.cell 1
  have c2 : w2.cell? ⟨w.heap.size, 2, none⟩ = some (.int .i64 i.o.node) := HB3.out.cell 2
  have c3 : w2.cell? ⟨w.heap.size, 3, none⟩ = some (.int .u64 (i.o.epoch : Int)) := HB3.out.cell 3
  have c4 : w2.cell? ⟨w.heap.size, 4, none⟩ = some (.int .u64 (i.o.seq : Int)) := HB3.out.cell 4
  have c5 : w2.cell? ⟨w.heap.size, 5, none⟩ = some (.int .i64 i.o.tr) := HB3.out.cell 5
  have c6 : w2.cell? ⟨w.heap.size, 6, none⟩ = some (.int .i64 i.o.t.kind) := HB3.out.cell 6
  have c7 : w2.cell? ⟨w.heap.size, 7, none⟩ = some (.slice i.o.t.ra i.o.t.reads.length i.o.t.rc) := HB3.out.cell 7
  have c8 : w2.cell? ⟨w.heap.size, 8, none⟩ = some (.slice i.o.t.wa i.o.t.writes.length i.o.t.wc) := HB3.out.cell 8
  have c9 : w2.cell? ⟨w.heap.size, 9, none⟩ = some (.slice i.o.t.oa i.o.t.ops.length i.o.t.oc) := HB3.out.cell 9
  have c10 : w2.cell? ⟨w.heap.size, 10, none⟩ = some (.int .i64 i.o.t.to) := HB3.out.cell 10
  have c11 : w2.cell? ⟨w.heap.size, 11, none⟩ = some (.slice i.o.ma i.o.marks.length i.o.mc) := HB3.out.cell 11
  have f0 := HB3.out.free 0
  have f1 := HB3.out.free 1
  have f2 := HB3.out.free 2
  have f3 := HB3.out.free 3
  have f4 := HB3.out.free 4
  have f5 := HB3.out.free 5
  have f6 := HB3.out.free 6
  have f7 := HB3.out.free 7
  have f8 := HB3.out.free 8
  have f9 := HB3.out.free 9
  have f10 := HB3.out.free 10
  have f11 := HB3.out.free 11
  obtain ⟨w3, hw3⟩ : ∃ w3, w3 = ((((((((((w2.setCell ⟨w.heap.size, 2, none⟩ (.int .i64 b.node)).setCell ⟨w.heap.size, 3, none⟩ (.int .u64 (b.epoch : Int))).setCell ⟨w.heap.size, 4, none⟩ (.int .u64 (b.seq : Int))).setCell ⟨w.heap.size, 5, none⟩ (.int .i64 b.tr)).setCell ⟨w.heap.size, 6, none⟩ (.int .i64 b.t.kind)).setCell ⟨w.heap.size, 7, none⟩ (.slice b.t.ra b.t.reads.length b.t.rc)).setCell ⟨w.heap.size, 8, none⟩ (.slice b.t.wa b.t.writes.length b.t.wc)).setCell ⟨w.heap.size, 9, none⟩ (.slice b.t.oa b.t.ops.length b.t.oc)).setCell ⟨w.heap.size, 10, none⟩ (.int .i64 b.t.to)).setCell ⟨w.heap.size, 11, none⟩ (.slice b.ma b.marks.length b.mc)) := ⟨_, rfl⟩
  have HX3 : Hid (Fr (fun k => k = w.heap.size) w2 w3) := by
    show Fr _ _ _
    rw [hw3]
    exact (((((((((((Fr.refl (fun k => k = w.heap.size) w2).setCell (p := ⟨w.heap.size, 2, none⟩) (fun _ => rfl) _).setCell (p := ⟨w.heap.size, 3, none⟩) (fun _ => rfl) _).setCell (p := ⟨w.heap.size, 4, none⟩) (fun _ => rfl) _).setCell (p := ⟨w.heap.size, 5, none⟩) (fun _ => rfl) _).setCell (p := ⟨w.heap.size, 6, none⟩) (fun _ => rfl) _).setCell (p := ⟨w.heap.size, 7, none⟩) (fun _ => rfl) _).setCell (p := ⟨w.heap.size, 8, none⟩) (fun _ => rfl) _).setCell (p := ⟨w.heap.size, 9, none⟩) (fun _ => rfl) _).setCell (p := ⟨w.heap.size, 10, none⟩) (fun _ => rfl) _).setCell (p := ⟨w.heap.size, 11, none⟩) (fun _ => rfl) _)
  have HB5 : Hid (Bk w3 (w.heap.size) 40 #[.int .i64 i.kind, .int .i64 i.index, .int .i64 b.node, .int .u64 (b.epoch : Int), .int .u64 (b.seq : Int), .int .i64 b.tr, .int .i64 b.t.kind, .slice b.t.ra b.t.reads.length b.t.rc, .slice b.t.wa b.t.writes.length b.t.wc, .slice b.t.oa b.t.ops.length b.t.oc, .int .i64 b.t.to, .slice b.ma b.marks.length b.mc]) := by
    show Bk _ _ _ _
    rw [hw3]
    refine Bk.cast ((((((((((HB3.out.put 2 (.int .i64 b.node)).put 3 (.int .u64 (b.epoch : Int))).put 4 (.int .u64 (b.seq : Int))).put 5 (.int .i64 b.tr)).put 6 (.int .i64 b.t.kind)).put 7 (.slice b.t.ra b.t.reads.length b.t.rc)).put 8 (.slice b.t.wa b.t.writes.length b.t.wc)).put 9 (.slice b.t.oa b.t.ops.length b.t.oc)).put 10 (.int .i64 b.t.to)).put 11 (.slice b.ma b.marks.length b.mc)) ?_
    unfold ima
    simp only [List.setIfInBounds_toArray, List.set_cons_zero, List.set_cons_succ]
  have HB6 := Lib.hid (HB4.out.fr HX3.out (by omega))
  have HU3 := Lib.hid (HCP.out.inn.txn.frV HCP.out.own HX3.out HB3.out (by decide) (by decide) (by decide))
  have HM3 : Hid (Rd w3 b.ma (mksc b.marks) ∧ Fsh w3 w1.heap.size b.ma (b.marks.length * 3) 63) :=
    ⟨HCP.out.inn.marks.fr' HX3.out fun hp => HCP.out.ownm.ne HB3.out (by decide) (by rw [mksc_len] at hp; omega), HCP.out.ownm.frV HX3.out HB3.out (by decide)⟩
  have HF3 : Hid (Fr NoBlk w w3) := (HF.out.trans HCP.out.fr).step HX3.out (fun i hi e => by omega)
  have HW3 := Lib.hid hw3
  unfold odv oda
  clear hw3 HX3 HB3 HB4 HF
  go_upto_region 2 with fail
  rw [← HW3.out]
  clear HW3 c0 c1 c2 c3 c4 c5 c6 c7 c8 c9 c10 c11 f0 f1 f2 f3 f4 f5 f6 f7 f8 f9 f10 f11
  have d0 : w3.cell? ⟨w.heap.size, 0, none⟩ = some (.int .i64 i.kind) := HB5.out.cell 0
  have d1 : w3.cell? ⟨w.heap.size, 1, none⟩ = some (.int .i64 i.index) := HB5.out.cell 1
  have d2 : w3.cell? ⟨w.heap.size, 2, none⟩ = some (.int .i64 b.node) := HB5.out.cell 2
  have d3 : w3.cell? ⟨w.heap.size, 3, none⟩ = some (.int .u64 (b.epoch : Int)) := HB5.out.cell 3
  have d4 : w3.cell? ⟨w.heap.size, 4, none⟩ = some (.int .u64 (b.seq : Int)) := HB5.out.cell 4
  have d5 : w3.cell? ⟨w.heap.size, 5, none⟩ = some (.int .i64 b.tr) := HB5.out.cell 5
  have d6 : w3.cell? ⟨w.heap.size, 6, none⟩ = some (.int .i64 b.t.kind) := HB5.out.cell 6
  have d7 : w3.cell? ⟨w.heap.size, 7, none⟩ = some (.slice b.t.ra b.t.reads.length b.t.rc) := HB5.out.cell 7
  have d8 : w3.cell? ⟨w.heap.size, 8, none⟩ = some (.slice b.t.wa b.t.writes.length b.t.wc) := HB5.out.cell 8
  have d9 : w3.cell? ⟨w.heap.size, 9, none⟩ = some (.slice b.t.oa b.t.ops.length b.t.oc) := HB5.out.cell 9
  have d10 : w3.cell? ⟨w.heap.size, 10, none⟩ = some (.int .i64 b.t.to) := HB5.out.cell 10
  have d11 : w3.cell? ⟨w.heap.size, 11, none⟩ = some (.slice b.ma b.marks.length b.mc) := HB5.out.cell 11
  have q0 : w3.cell? ⟨w.heap.size + 1, 0, none⟩ = some (.int .i64 0) := HB6.out.cell 0
  have q1 : w3.cell? ⟨w.heap.size + 1, 1, none⟩ = some (.int .i64 0) := HB6.out.cell 1
  have q2 : w3.cell? ⟨w.heap.size + 1, 2, none⟩ = some (.int .i64 0) := HB6.out.cell 2
  have q3 : w3.cell? ⟨w.heap.size + 1, 3, none⟩ = some (.int .u64 0) := HB6.out.cell 3
  have q4 : w3.cell? ⟨w.heap.size + 1, 4, none⟩ = some (.int .u64 0) := HB6.out.cell 4
  have q5 : w3.cell? ⟨w.heap.size + 1, 5, none⟩ = some (.int .i64 0) := HB6.out.cell 5
  have q6 : w3.cell? ⟨w.heap.size + 1, 6, none⟩ = some (.int .i64 0) := HB6.out.cell 6
  have q7 : w3.cell? ⟨w.heap.size + 1, 7, none⟩ = some (.slice none 0 0) := HB6.out.cell 7
  have q8 : w3.cell? ⟨w.heap.size + 1, 8, none⟩ = some (.slice none 0 0) := HB6.out.cell 8
  have q9 : w3.cell? ⟨w.heap.size + 1, 9, none⟩ = some (.slice none 0 0) := HB6.out.cell 9
  have q10 : w3.cell? ⟨w.heap.size + 1, 10, none⟩ = some (.int .i64 0) := HB6.out.cell 10
  have q11 : w3.cell? ⟨w.heap.size + 1, 11, none⟩ = some (.slice none 0 0) := HB6.out.cell 11
  have f0 := HB6.out.free 0
  have f1 := HB6.out.free 1
  have f2 := HB6.out.free 2
  have f3 := HB6.out.free 3
  have f4 := HB6.out.free 4
  have f5 := HB6.out.free 5
  have f6 := HB6.out.free 6
  have f7 := HB6.out.free 7
  have f8 := HB6.out.free 8
  have f9 := HB6.out.free 9
  have f10 := HB6.out.free 10
  have f11 := HB6.out.free 11
  obtain ⟨wz, hwz⟩ : ∃ wz, wz = ((((((((((((w3.setCell ⟨w.heap.size + 1, 0, none⟩ (.int .i64 i.kind)).setCell ⟨w.heap.size + 1, 1, none⟩ (.int .i64 i.index)).setCell ⟨w.heap.size + 1, 2, none⟩ (.int .i64 b.node)).setCell ⟨w.heap.size + 1, 3, none⟩ (.int .u64 (b.epoch : Int))).setCell ⟨w.heap.size + 1, 4, none⟩ (.int .u64 (b.seq : Int))).setCell ⟨w.heap.size + 1, 5, none⟩ (.int .i64 b.tr)).setCell ⟨w.heap.size + 1, 6, none⟩ (.int .i64 b.t.kind)).setCell ⟨w.heap.size + 1, 7, none⟩ (.slice b.t.ra b.t.reads.length b.t.rc)).setCell ⟨w.heap.size + 1, 8, none⟩ (.slice b.t.wa b.t.writes.length b.t.wc)).setCell ⟨w.heap.size + 1, 9, none⟩ (.slice b.t.oa b.t.ops.length b.t.oc)).setCell ⟨w.heap.size + 1, 10, none⟩ (.int .i64 b.t.to)).setCell ⟨w.heap.size + 1, 11, none⟩ (.slice b.ma b.marks.length b.mc)) := ⟨_, rfl⟩
  have HXZ : Hid (Fr (fun k => k = w.heap.size + 1) w3 wz) := by
    show Fr _ _ _
    rw [hwz]
    exact (((((((((((((Fr.refl (fun k => k = w.heap.size + 1) w3).setCell (p := ⟨w.heap.size + 1, 0, none⟩) (fun _ => rfl) _).setCell (p := ⟨w.heap.size + 1, 1, none⟩) (fun _ => rfl) _).setCell (p := ⟨w.heap.size + 1, 2, none⟩) (fun _ => rfl) _).setCell (p := ⟨w.heap.size + 1, 3, none⟩) (fun _ => rfl) _).setCell (p := ⟨w.heap.size + 1, 4, none⟩) (fun _ => rfl) _).setCell (p := ⟨w.heap.size + 1, 5, none⟩) (fun _ => rfl) _).setCell (p := ⟨w.heap.size + 1, 6, none⟩) (fun _ => rfl) _).setCell (p := ⟨w.heap.size + 1, 7, none⟩) (fun _ => rfl) _).setCell (p := ⟨w.heap.size + 1, 8, none⟩) (fun _ => rfl) _).setCell (p := ⟨w.heap.size + 1, 9, none⟩) (fun _ => rfl) _).setCell (p := ⟨w.heap.size + 1, 10, none⟩) (fun _ => rfl) _).setCell (p := ⟨w.heap.size + 1, 11, none⟩) (fun _ => rfl) _)
  have HBZ : Hid (Bk wz (w.heap.size + 1) 40 #[.int .i64 i.kind, .int .i64 i.index, .int .i64 b.node, .int .u64 (b.epoch : Int), .int .u64 (b.seq : Int), .int .i64 b.tr, .int .i64 b.t.kind, .slice b.t.ra b.t.reads.length b.t.rc, .slice b.t.wa b.t.writes.length b.t.wc, .slice b.t.oa b.t.ops.length b.t.oc, .int .i64 b.t.to, .slice b.ma b.marks.length b.mc]) := by
    show Bk _ _ _ _
    rw [hwz]
    refine Bk.cast ((((((((((((HB6.out.put 0 (.int .i64 i.kind)).put 1 (.int .i64 i.index)).put 2 (.int .i64 b.node)).put 3 (.int .u64 (b.epoch : Int))).put 4 (.int .u64 (b.seq : Int))).put 5 (.int .i64 b.tr)).put 6 (.int .i64 b.t.kind)).put 7 (.slice b.t.ra b.t.reads.length b.t.rc)).put 8 (.slice b.t.wa b.t.writes.length b.t.wc)).put 9 (.slice b.t.oa b.t.ops.length b.t.oc)).put 10 (.int .i64 b.t.to)).put 11 (.slice b.ma b.marks.length b.mc)) ?_
    unfold izero
    simp only [List.setIfInBounds_toArray, List.set_cons_zero, List.set_cons_succ]
  have HUZ := Lib.hid (HU3.out.1.frV HU3.out.2 HXZ.out HB6.out (by decide) (by decide) (by decide))
  have HMZ : Hid (Rd wz b.ma (mksc b.marks) ∧ Fsh wz w1.heap.size b.ma (b.marks.length * 3) 63) :=
    ⟨HM3.out.1.fr' HXZ.out fun hp => HM3.out.2.ne HB6.out (by decide) (by rw [mksc_len] at hp; omega), HM3.out.2.frV HXZ.out HB6.out (by decide)⟩
  have HFZ : Hid (Fr NoBlk w wz) := HF3.out.step HXZ.out (fun i hi e => by omega)
  have HWZ := Lib.hid hwz
  clear hwz HXZ HB5 HB6 HU3 HM3 HF3
  go_wp2_with fail
  rw [← HWZ.out]
  clear HWZ
  have z0 : wz.cell? ⟨w.heap.size + 1, 0, none⟩ = some (.int .i64 i.kind) := HBZ.out.cell 0
  have z1 : wz.cell? ⟨w.heap.size + 1, 1, none⟩ = some (.int .i64 i.index) := HBZ.out.cell 1
  have z2 : wz.cell? ⟨w.heap.size + 1, 2, none⟩ = some (.int .i64 b.node) := HBZ.out.cell 2
  have z3 : wz.cell? ⟨w.heap.size + 1, 3, none⟩ = some (.int .u64 (b.epoch : Int)) := HBZ.out.cell 3
  have z4 : wz.cell? ⟨w.heap.size + 1, 4, none⟩ = some (.int .u64 (b.seq : Int)) := HBZ.out.cell 4
  have z5 : wz.cell? ⟨w.heap.size + 1, 5, none⟩ = some (.int .i64 b.tr) := HBZ.out.cell 5
  have z6 : wz.cell? ⟨w.heap.size + 1, 6, none⟩ = some (.int .i64 b.t.kind) := HBZ.out.cell 6
  have z7 : wz.cell? ⟨w.heap.size + 1, 7, none⟩ = some (.slice b.t.ra b.t.reads.length b.t.rc) := HBZ.out.cell 7
  have z8 : wz.cell? ⟨w.heap.size + 1, 8, none⟩ = some (.slice b.t.wa b.t.writes.length b.t.wc) := HBZ.out.cell 8
  have z9 : wz.cell? ⟨w.heap.size + 1, 9, none⟩ = some (.slice b.t.oa b.t.ops.length b.t.oc) := HBZ.out.cell 9
  have z10 : wz.cell? ⟨w.heap.size + 1, 10, none⟩ = some (.int .i64 b.t.to) := HBZ.out.cell 10
  have z11 : wz.cell? ⟨w.heap.size + 1, 11, none⟩ = some (.slice b.ma b.marks.length b.mc) := HBZ.out.cell 11
  have hfin : OCpy w wz i.o b :=
    ⟨⟨HUZ.out.1, HMZ.out.1, HCP.out.inn.ml, HCP.out.inn.keys, HCP.out.inn.nums⟩, HCP.out.like, HUZ.out.2.mono (by have := HSZ.out; omega), HMZ.out.2.mono (by have := HSZ.out; omega), HFZ.out⟩
  clear HBZ HUZ HMZ HFZ HCP
  refine bodyPost_ret (v := imv ⟨i.kind, i.index, b⟩) ?_ rfl ⟨b, rfl, hfin⟩
  unfold imv ima
  simp [results, Try.results54, go_sem, z0, z1, z2, z3, z4, z5, z6, z7, z8, z9, z10, z11]
end Go.Proofs.Ytdgjjkmgdjiliaa
