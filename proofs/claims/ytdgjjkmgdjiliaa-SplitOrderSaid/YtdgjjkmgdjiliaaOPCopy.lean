/- The program's Copy of an order: alike, in memory of its own. Conditions: the order is small. -/
import Derived.Test.YtdgjjkmgdjiliaaOCopy
import Derived.Test.YtdgjjkmgdjiliaaPCopy
namespace Go.Proofs.Ytdgjjkmgdjiliaa
open Go.RowKit

set_option maxRecDepth 100000 in
set_option maxHeartbeats 1000000 in
theorem cloneM_any (w : World) (A : Option Addr) (n c : Nat) (xs : List Mk) (hn : xs.length = n) (hr : Rd w A (mksc xs)) (hA : A = none → c = 0) (hc : n ≤ c) (hx : n ≤ 1000) :
    Calls Try.prog 74 #[.slice A n c] w (ClonePost w n 3 63 (mksc xs)) := by
  obtain ⟨i0, hi, hz0, hz1, hz2⟩ := info_parts markInfo
  have HR := Lib.hid hr
  have HN := Lib.hid hn
  have HL : Hid ((mksc xs).length = n * 3) := by show _ = _; rw [mksc_len, hn]
  clear hr hn
  rcases A with _ | ad
  · obtain rfl := hA rfl
    obtain rfl : n = 0 := by omega
    obtain rfl : xs = [] := List.eq_nil_of_length_eq_zero HN.out
    clear HN HL hA hc hx
    have q := Lib.run_eql_slice_nil (P := Try.prog) w 36 _ none 0 0 0 0 Try.underlying36
    go_enter Try.func74, Try.ntmps74
    go_wp2_with fail
    go_ret
    exact ClonePost.nil w 3 _
  · have HRA := Lib.hid (HR.out.alloc (.cells #[] 63))
    clear HR hA HN
    have q := Lib.run_eql_slice_nil (P := Try.prog) w 36 _ (some ad) n c 0 0 Try.underlying36
    go_enter Try.func74, Try.ntmps74
    go_wp2_with (at_builtin; refine wpList_appB rfl _ _ 36 rfl 63 i0 _ 3 32 Try.underlying36 hi hz0 hz1 hz2 rfl (by decide) _ rfl (some ad) c n (mksc xs) rfl HL.out HRA.out (mksc_one _) (fun h => by cases h) (by unfold maxLen; omega) (by omega) ?_)
    intro A1 c1 w1 hg
    have HG := Lib.hid hg.ofAlloc
    clear hg HRA HL
    go_wp2_with fail
    go_ret
    exact ⟨_, _, rfl, HG.out⟩

/-- an order copied by the program: alike, in memory of its own. -/
structure OCpy (w w' : World) (a b : Od) : Prop where
  inn : OdIn w' b
  like : OAlike b a
  own : WOwn w' w.heap.size b.t
  ownm : Fsh w' w.heap.size b.ma (b.marks.length * 3) 63
  fr : Fr NoBlk w w'
def OCpyPost (w : World) (a : Od) (e : Ending) (w' : World) : Prop := ∃ b, e = .returned (odv b) ∧ OCpy w w' a b

theorem TxIn.frV {w w' : World} {N V : Nat} {u : Tx} {T : TypeId} {cs : Array Value} (ht : TxIn w u) (ho : WOwn w N u) (hf : Fr (fun k => k = V) w w') (hV : Bk w V T cs) (h1 : 9 ≠ T) (h2 : 98 ≠ T) (h3 : 5 ≠ T) : TxIn w' u ∧ WOwn w' N u :=
  ⟨⟨ht.reads.fr' hf fun hp => ho.fr_.ne hV h1 (by rw [sts_len] at hp; omega), ht.writes.fr' hf fun hp => ho.fw_.ne hV h1 (by rw [sts_len] at hp; omega), ht.ops.fr' hf fun hp => ho.fo_.ne hV h2 (by rw [opsc_len] at hp; omega),
    fun x hx => ⟨⟨(ht.vals x hx).1.1.fr' hf fun hp => (ho.fv_ x hx).ne hV h3 (by rw [cb_length] at hp; omega), (ht.vals x hx).1.2⟩, (ht.vals x hx).2⟩, ht.texts, ht.rl, ht.wl, ht.ol⟩,
   ⟨ho.fr_.frV hf hV h1, ho.fw_.frV hf hV h1, ho.fo_.frV hf hV h2, fun x hx => (ho.fv_ x hx).frV hf hV h3⟩⟩
theorem WOwn.mono {w : World} {M N : Nat} {u : Tx} (h : WOwn w N u) (hM : M ≤ N) : WOwn w M u := ⟨h.fr_.mono hM, h.fw_.mono hM, h.fo_.mono hM, fun x hx => (h.fv_ x hx).mono hM⟩

set_option maxRecDepth 100000 in
set_option maxHeartbeats 8000000 in
theorem opcopy_any (w : World) (o : Od) (ho : OdIn w o) (hs : OSmall o) : Calls Try.prog 66 #[odv o] w (OCpyPost w o) := by
  obtain ⟨w1, hw1⟩ : ∃ w1, w1 = (w.alloc (.cells (oda o) 38)).alloc (.cells ozero 38) := ⟨_, rfl⟩
  have HF : Hid (Fr NoBlk w w1) := by
    show Fr _ _ _
    rw [hw1]
    exact ((Fr.refl _ _).alloc _).alloc _
  have HB : Hid (Bk w1 w.heap.size 38 (oda o)) := by
    show Bk _ _ _ _
    rw [hw1]
    exact (Bk.new w _ _).alloc _
  have HB2 : Hid (Bk w1 (w.heap.size + 1) 38 ozero) := by
    show Bk _ _ _ _
    rw [hw1]
    exact Bk.new2 w _ _ _
  have HSZ : Hid (w1.heap.size = w.heap.size + 2) := by
    show _ = _
    rw [hw1]; simp
  have HO := Lib.hid ho
  have K1 := Lib.hid (pcopy_any w1 o.t (ho.txn.nofr HF.out) hs.t)
  have K2 := Lib.hid fun W (hf : Fr NoBlk w W) => cloneM_any W o.ma _ o.mc o.marks rfl (ho.marks.nofr hf) ho.ml.2.2 ho.ml.1 (by have := hs.m; omega)
  clear ho hs
  unfold txv txa at K1
  obtain ⟨c0, c1, c2, c3, c4, c5, c6, c7, c8, c9⟩ := HB.out.ord
  unfold oda ozero at hw1
  unfold odv oda
  go_enter Try.func66, Try.ntmps66
  go_upto_region 1 with fail
  rw [← hw1]
  clear hw1
  go_wp2_with fail
  refine K1.out.mono ?_
  rintro e w2 ⟨u, rfl, hcp⟩
  have HU := Lib.hid hcp.inn
  have HOW := Lib.hid (hcp.own.mono (M := w.heap.size) (by have := HSZ.out; omega))
  have HAL : Hid (u.kind = o.t.kind ∧ u.to = o.t.to ∧ u.reads = o.t.reads ∧ u.writes = o.t.writes ∧ Alike u.ops o.t.ops) := ⟨hcp.kind, hcp.to_, hcp.reads, hcp.writes, hcp.ops⟩
  have HF2 := Lib.hid (HF.out.trans hcp.fr)
  have HB3 := Lib.hid (HB.out.fr hcp.fr (fun h => h))
  have HB4 := Lib.hid (HB2.out.fr hcp.fr (fun h => h))
  clear hcp K1 HB HB2 c0 c1 c2 c3 c4 c5 c6 c7 c8 c9
  obtain ⟨c0, c1, c2, c3, c4, c5, c6, c7, c8, c9⟩ := HB3.out.ord
  have f4 := HB3.out.free 4
  have f5 := HB3.out.free 5
  have f6 := HB3.out.free 6
  have f7 := HB3.out.free 7
  have f8 := HB3.out.free 8
  obtain ⟨w3, hw3⟩ : ∃ w3, w3 = (((((w2.setCell ⟨w.heap.size, 4, none⟩ (.int .i64 u.kind)).setCell ⟨w.heap.size, 5, none⟩ (.slice u.ra u.reads.length u.rc)).setCell ⟨w.heap.size, 6, none⟩ (.slice u.wa u.writes.length u.wc)).setCell ⟨w.heap.size, 7, none⟩ (.slice u.oa u.ops.length u.oc)).setCell ⟨w.heap.size, 8, none⟩ (.int .i64 u.to)) := ⟨_, rfl⟩
  have HX3 : Hid (Fr (fun k => k = w.heap.size) w2 w3) := by
    show Fr _ _ _
    rw [hw3]
    exact ((((((Fr.refl (fun k => k = w.heap.size) w2).setCell (p := ⟨w.heap.size, 4, none⟩) (fun _ => rfl) _).setCell (p := ⟨w.heap.size, 5, none⟩) (fun _ => rfl) _).setCell (p := ⟨w.heap.size, 6, none⟩) (fun _ => rfl) _).setCell (p := ⟨w.heap.size, 7, none⟩) (fun _ => rfl) _).setCell (p := ⟨w.heap.size, 8, none⟩) (fun _ => rfl) _)
  have HB5 : Hid (Bk w3 w.heap.size 38 #[.int .i64 o.node, .int .u64 (o.epoch : Int), .int .u64 (o.seq : Int), .int .i64 o.tr, .int .i64 u.kind, .slice u.ra u.reads.length u.rc, .slice u.wa u.writes.length u.wc, .slice u.oa u.ops.length u.oc, .int .i64 u.to, .slice o.ma o.marks.length o.mc]) := by
    show Bk _ _ _ _
    rw [hw3]
    refine Bk.cast (((((HB3.out.put 4 (.int .i64 u.kind)).put 5 (.slice u.ra u.reads.length u.rc)).put 6 (.slice u.wa u.writes.length u.wc)).put 7 (.slice u.oa u.ops.length u.oc)).put 8 (.int .i64 u.to)) ?_
    unfold oda
    simp only [List.setIfInBounds_toArray, List.set_cons_zero, List.set_cons_succ]
  have HB6 := Lib.hid (HB4.out.fr HX3.out (by omega))
  have HU3 := Lib.hid (HU.out.frV HOW.out HX3.out HB3.out (by decide) (by decide) (by decide))
  have HF3 : Hid (Fr NoBlk w w3) := HF2.out.step HX3.out (fun i hi e => by omega)
  have HW3 := Lib.hid hw3
  unfold txv txa
  clear hw3 HX3 HB3 HB4 HU HOW HF2 HF
  go_upto_region 2 with fail
  rw [← HW3.out]
  clear HW3 c0 c1 c2 c3 c4 c5 c6 c7 c8 c9 f4 f5 f6 f7 f8
  have d9 : w3.cell? ⟨w.heap.size, 9, none⟩ = some (.slice o.ma o.marks.length o.mc) := HB5.out.cell 9
  go_wp2_with fail
  refine (K2.out _ HF3.out).mono ?_
  rintro e w4 ⟨A9, c9', rfl, hg4⟩
  have HG4 := Lib.hid hg4
  have HB7 := Lib.hid (HB5.out.fr hg4.got.fr (fun h => h))
  have HB8 := Lib.hid (HB6.out.fr hg4.got.fr (fun h => h))
  have HU4 : Hid (TxIn w4 u ∧ WOwn w4 w.heap.size u) := ⟨HU3.out.1.nofr hg4.got.fr, HU3.out.2.fr hg4.got.fr⟩
  have HF4 := Lib.hid (HF3.out.trans hg4.got.fr)
  clear hg4 HB5 HB6 HU3 d9 K2
  obtain ⟨w5, hw5⟩ : ∃ w5, w5 = w4.setCell ⟨w.heap.size, 9, none⟩ (.slice A9 o.marks.length c9') := ⟨_, rfl⟩
  have d9 : w4.cell? ⟨w.heap.size, 9, none⟩ = some (.slice o.ma o.marks.length o.mc) := HB7.out.cell 9
  have f9 := HB7.out.free 9
  have HX5 : Hid (Fr (fun k => k = w.heap.size) w4 w5) := by
    show Fr _ _ _
    rw [hw5]
    exact (Fr.refl (fun k => k = w.heap.size) w4).setCell (p := ⟨w.heap.size, 9, none⟩) (fun _ => rfl) _
  have HB9 : Hid (Bk w5 w.heap.size 38 #[.int .i64 o.node, .int .u64 (o.epoch : Int), .int .u64 (o.seq : Int), .int .i64 o.tr, .int .i64 u.kind, .slice u.ra u.reads.length u.rc, .slice u.wa u.writes.length u.wc, .slice u.oa u.ops.length u.oc, .int .i64 u.to, .slice A9 o.marks.length c9']) := by
    show Bk _ _ _ _
    rw [hw5]
    refine Bk.cast (HB7.out.put 9 (.slice A9 o.marks.length c9')) ?_
    simp only [List.setIfInBounds_toArray, List.set_cons_zero, List.set_cons_succ]
  have HB10 := Lib.hid (HB8.out.fr HX5.out (by omega))
  have HU5 := Lib.hid (HU4.out.1.frV HU4.out.2 HX5.out HB7.out (by decide) (by decide) (by decide))
  have HM5 : Hid (Rd w5 A9 (mksc o.marks) ∧ Fsh w5 w.heap.size A9 (o.marks.length * 3) 63) :=
    ⟨HG4.out.got.rd.fr' HX5.out fun hp => HG4.out.fsh.ne HB7.out (by decide) (by rw [mksc_len] at hp; omega), (HG4.out.fsh.frV HX5.out HB7.out (by decide)).mono (by have := HF3.out.size; omega)⟩
  have HL5 : Hid (o.marks.length ≤ c9' ∧ c9' ≤ maxLen ∧ (A9 = none → c9' = 0)) := ⟨HG4.out.got.le, HG4.out.got.max, HG4.out.got.nil⟩
  have HF5 : Hid (Fr NoBlk w w5) := HF4.out.step HX5.out (fun i hi e => by omega)
  have HW5 := Lib.hid hw5
  clear hw5 HX5 HB7 HB8 HU4 HG4 HF4 HF3
  go_upto_region 3 with fail
  rw [← HW5.out]
  clear HW5 d9 f9
  have d0 : w5.cell? ⟨w.heap.size, 0, none⟩ = some (.int .i64 o.node) := HB9.out.cell 0
  have d1 : w5.cell? ⟨w.heap.size, 1, none⟩ = some (.int .u64 (o.epoch : Int)) := HB9.out.cell 1
  have d2 : w5.cell? ⟨w.heap.size, 2, none⟩ = some (.int .u64 (o.seq : Int)) := HB9.out.cell 2
  have d3 : w5.cell? ⟨w.heap.size, 3, none⟩ = some (.int .i64 o.tr) := HB9.out.cell 3
  have d4 : w5.cell? ⟨w.heap.size, 4, none⟩ = some (.int .i64 u.kind) := HB9.out.cell 4
  have d5 : w5.cell? ⟨w.heap.size, 5, none⟩ = some (.slice u.ra u.reads.length u.rc) := HB9.out.cell 5
  have d6 : w5.cell? ⟨w.heap.size, 6, none⟩ = some (.slice u.wa u.writes.length u.wc) := HB9.out.cell 6
  have d7 : w5.cell? ⟨w.heap.size, 7, none⟩ = some (.slice u.oa u.ops.length u.oc) := HB9.out.cell 7
  have d8 : w5.cell? ⟨w.heap.size, 8, none⟩ = some (.int .i64 u.to) := HB9.out.cell 8
  have d9 : w5.cell? ⟨w.heap.size, 9, none⟩ = some (.slice A9 o.marks.length c9') := HB9.out.cell 9
  have q0 : w5.cell? ⟨w.heap.size + 1, 0, none⟩ = some (.int .i64 0) := HB10.out.cell 0
  have g0 := HB10.out.free 0
  have q1 : w5.cell? ⟨w.heap.size + 1, 1, none⟩ = some (.int .u64 0) := HB10.out.cell 1
  have g1 := HB10.out.free 1
  have q2 : w5.cell? ⟨w.heap.size + 1, 2, none⟩ = some (.int .u64 0) := HB10.out.cell 2
  have g2 := HB10.out.free 2
  have q3 : w5.cell? ⟨w.heap.size + 1, 3, none⟩ = some (.int .i64 0) := HB10.out.cell 3
  have g3 := HB10.out.free 3
  have q4 : w5.cell? ⟨w.heap.size + 1, 4, none⟩ = some (.int .i64 0) := HB10.out.cell 4
  have g4 := HB10.out.free 4
  have q5 : w5.cell? ⟨w.heap.size + 1, 5, none⟩ = some (.slice none 0 0) := HB10.out.cell 5
  have g5 := HB10.out.free 5
  have q6 : w5.cell? ⟨w.heap.size + 1, 6, none⟩ = some (.slice none 0 0) := HB10.out.cell 6
  have g6 := HB10.out.free 6
  have q7 : w5.cell? ⟨w.heap.size + 1, 7, none⟩ = some (.slice none 0 0) := HB10.out.cell 7
  have g7 := HB10.out.free 7
  have q8 : w5.cell? ⟨w.heap.size + 1, 8, none⟩ = some (.int .i64 0) := HB10.out.cell 8
  have g8 := HB10.out.free 8
  have q9 : w5.cell? ⟨w.heap.size + 1, 9, none⟩ = some (.slice none 0 0) := HB10.out.cell 9
  have g9 := HB10.out.free 9
  obtain ⟨wz, hwz⟩ : ∃ wz, wz = ((((((((((w5.setCell ⟨w.heap.size + 1, 0, none⟩ (.int .i64 o.node)).setCell ⟨w.heap.size + 1, 1, none⟩ (.int .u64 (o.epoch : Int))).setCell ⟨w.heap.size + 1, 2, none⟩ (.int .u64 (o.seq : Int))).setCell ⟨w.heap.size + 1, 3, none⟩ (.int .i64 o.tr)).setCell ⟨w.heap.size + 1, 4, none⟩ (.int .i64 u.kind)).setCell ⟨w.heap.size + 1, 5, none⟩ (.slice u.ra u.reads.length u.rc)).setCell ⟨w.heap.size + 1, 6, none⟩ (.slice u.wa u.writes.length u.wc)).setCell ⟨w.heap.size + 1, 7, none⟩ (.slice u.oa u.ops.length u.oc)).setCell ⟨w.heap.size + 1, 8, none⟩ (.int .i64 u.to)).setCell ⟨w.heap.size + 1, 9, none⟩ (.slice A9 o.marks.length c9')) := ⟨_, rfl⟩
  have HXZ : Hid (Fr (fun k => k = w.heap.size + 1) w5 wz) := by
    show Fr _ _ _
    rw [hwz]
    exact (((((((((((Fr.refl (fun k => k = w.heap.size + 1) w5).setCell (p := ⟨w.heap.size + 1, 0, none⟩) (fun _ => rfl) _).setCell (p := ⟨w.heap.size + 1, 1, none⟩) (fun _ => rfl) _).setCell (p := ⟨w.heap.size + 1, 2, none⟩) (fun _ => rfl) _).setCell (p := ⟨w.heap.size + 1, 3, none⟩) (fun _ => rfl) _).setCell (p := ⟨w.heap.size + 1, 4, none⟩) (fun _ => rfl) _).setCell (p := ⟨w.heap.size + 1, 5, none⟩) (fun _ => rfl) _).setCell (p := ⟨w.heap.size + 1, 6, none⟩) (fun _ => rfl) _).setCell (p := ⟨w.heap.size + 1, 7, none⟩) (fun _ => rfl) _).setCell (p := ⟨w.heap.size + 1, 8, none⟩) (fun _ => rfl) _).setCell (p := ⟨w.heap.size + 1, 9, none⟩) (fun _ => rfl) _)
  have HBZ : Hid (Bk wz (w.heap.size + 1) 38 #[.int .i64 o.node, .int .u64 (o.epoch : Int), .int .u64 (o.seq : Int), .int .i64 o.tr, .int .i64 u.kind, .slice u.ra u.reads.length u.rc, .slice u.wa u.writes.length u.wc, .slice u.oa u.ops.length u.oc, .int .i64 u.to, .slice A9 o.marks.length c9']) := by
    show Bk _ _ _ _
    rw [hwz]
    refine Bk.cast ((((((((((HB10.out.put 0 (.int .i64 o.node)).put 1 (.int .u64 (o.epoch : Int))).put 2 (.int .u64 (o.seq : Int))).put 3 (.int .i64 o.tr)).put 4 (.int .i64 u.kind)).put 5 (.slice u.ra u.reads.length u.rc)).put 6 (.slice u.wa u.writes.length u.wc)).put 7 (.slice u.oa u.ops.length u.oc)).put 8 (.int .i64 u.to)).put 9 (.slice A9 o.marks.length c9')) ?_
    unfold ozero
    simp only [List.setIfInBounds_toArray, List.set_cons_zero, List.set_cons_succ]
  have HUZ := Lib.hid (HU5.out.1.frV HU5.out.2 HXZ.out HB10.out (by decide) (by decide) (by decide))
  have HMZ : Hid (Rd wz A9 (mksc o.marks) ∧ Fsh wz w.heap.size A9 (o.marks.length * 3) 63) :=
    ⟨HM5.out.1.fr' HXZ.out fun hp => HM5.out.2.ne HB10.out (by decide) (by rw [mksc_len] at hp; omega), HM5.out.2.frV HXZ.out HB10.out (by decide)⟩
  have HFZ : Hid (Fr NoBlk w wz) := HF5.out.step HXZ.out (fun i hi e => by omega)
  have HWZ := Lib.hid hwz
  clear hwz HXZ HB9 HB10 HU5 HM5 HF5
  go_wp2_with fail
  rw [← HWZ.out]
  clear HWZ
  have z0 : wz.cell? ⟨w.heap.size + 1, 0, none⟩ = some (.int .i64 o.node) := HBZ.out.cell 0
  have z1 : wz.cell? ⟨w.heap.size + 1, 1, none⟩ = some (.int .u64 (o.epoch : Int)) := HBZ.out.cell 1
  have z2 : wz.cell? ⟨w.heap.size + 1, 2, none⟩ = some (.int .u64 (o.seq : Int)) := HBZ.out.cell 2
  have z3 : wz.cell? ⟨w.heap.size + 1, 3, none⟩ = some (.int .i64 o.tr) := HBZ.out.cell 3
  have z4 : wz.cell? ⟨w.heap.size + 1, 4, none⟩ = some (.int .i64 u.kind) := HBZ.out.cell 4
  have z5 : wz.cell? ⟨w.heap.size + 1, 5, none⟩ = some (.slice u.ra u.reads.length u.rc) := HBZ.out.cell 5
  have z6 : wz.cell? ⟨w.heap.size + 1, 6, none⟩ = some (.slice u.wa u.writes.length u.wc) := HBZ.out.cell 6
  have z7 : wz.cell? ⟨w.heap.size + 1, 7, none⟩ = some (.slice u.oa u.ops.length u.oc) := HBZ.out.cell 7
  have z8 : wz.cell? ⟨w.heap.size + 1, 8, none⟩ = some (.int .i64 u.to) := HBZ.out.cell 8
  have z9 : wz.cell? ⟨w.heap.size + 1, 9, none⟩ = some (.slice A9 o.marks.length c9') := HBZ.out.cell 9
  have hfin : OCpy w wz o ⟨o.node, o.epoch, o.seq, o.tr, u, A9, c9', o.marks⟩ := by
    obtain ⟨a1, a2, a3, a4, a5⟩ := HAL.out
    exact ⟨⟨HUZ.out.1, HMZ.out.1, HL5.out, HO.out.keys, HO.out.nums⟩, ⟨rfl, rfl, rfl, rfl, a1, a2, a3, a4, a5, rfl⟩, HUZ.out.2, HMZ.out.2, HFZ.out⟩
  clear HBZ HUZ HMZ HFZ HAL HO
  refine bodyPost_ret (v := odv ⟨o.node, o.epoch, o.seq, o.tr, u, A9, c9', o.marks⟩) ?_ rfl ⟨_, rfl, hfin⟩
  unfold odv oda
  simp [results, Try.results66, go_sem, z0, z1, z2, z3, z4, z5, z6, z7, z8, z9]
end Go.Proofs.Ytdgjjkmgdjiliaa
