/- The program's writer: an order; Write. Conditions: the order is small. -/
import Derived.Test.YtakbjjohfcgaoaaWTxn
import Derived.Test.YtakbjjohfcgaoaaOrd
namespace Go.Proofs.Ytakbjjohfcgaoaa
open Go.RowKit

structure WOd (o : Od) : Prop where
  node : 0 ≤ o.node ∧ o.node ≤ 1000
  tr : 0 ≤ o.tr ∧ o.tr ≤ 1000
  t : WTx o.t
  marks : ∀ m ∈ o.marks, 0 ≤ m.home ∧ m.home ≤ 1000

set_option maxRecDepth 100000 in
set_option maxHeartbeats 8000000 in
theorem worder_any (w0 w : World) (base g : Nat) (o : Od) (v : Value) (l : List UInt8) (ho : OdIn w0 o) (h0 : Fr NoBlk w0 w) (hg : w0.heap.size ≤ g) (hb0 : w0.heap.size ≤ base) (hp : Pen w base g v l) (hb : base ≤ w.heap.size) (hw : WOd o) (hs : OSmall o)
    (hl : (l ++ orderB o).length ≤ 100000000) :
    Calls Try.prog 34 #[.pointer (some ⟨g, 0, none⟩), odv o] w fun e w' => e = .returned (.tuple #[]) ∧ ∃ v', Wro w w' base g v v' (l ++ orderB o) := by
  obtain ⟨nn, hnn⟩ : ∃ nn : Nat, o.node = nn := ⟨o.node.toNat, by have := hw.node; omega⟩
  obtain ⟨tn, htn⟩ : ∃ tn : Nat, o.tr = tn := ⟨o.tr.toNat, by have := hw.tr; omega⟩
  have hnb : nn ≤ 1000 := by have := hw.node; omega
  have htb : tn ≤ 1000 := by have := hw.tr; omega
  have HWM := Lib.hid hw.marks
  have HO := Lib.hid ho
  have HSM := Lib.hid hs
  have HOB : Hid (orderB o = nums [nn, o.epoch, o.seq, tn] ++ (txnB o.t ++ o.marks.flatMap markB)) := by
    show _ = _
    unfold orderB
    rw [hnn, htn]
    rfl
  have hlen : (l ++ (nums [nn, o.epoch, o.seq, tn] ++ (txnB o.t ++ o.marks.flatMap markB))).length ≤ 100000000 := by rw [← HOB.out]; exact hl
  simp only [List.length_append] at hlen
  have HLEN := Lib.hid hlen
  obtain ⟨w1, hw1⟩ : ∃ w1, w1 = w.alloc (.cells (oda o) 33) := ⟨_, rfl⟩
  obtain ⟨wi, hwi⟩ : ∃ wi, wi = w1.alloc (.cells #[.int .i64 (nn : Int), .int .u64 (o.epoch : Int), .int .u64 (o.seq : Int)] 24) := ⟨_, rfl⟩
  have HS1 : Hid (WSt w0 w w1 base g v v l w.heap.size 33 (oda o)) := by
    show WSt _ _ _ _ _ _ _ _ _ _ _
    rw [hw1]
    exact (⟨⟨hp, Fr.refl _ _, .inl rfl⟩, h0, hb⟩ : WS w0 w w base g v v l).box _ _
  have HSI : Hid (WSt w0 w wi base g v v l w.heap.size 33 (oda o)) := by
    show WSt _ _ _ _ _ _ _ _ _ _ _
    rw [hwi]
    exact HS1.out.nofr ((Fr.refl _ _).alloc _)
  have hszi : wi.heap.size = w.heap.size + 2 := by rw [hwi, hw1]; simp
  have HU : Hid (o.epoch < two64 ∧ o.seq < two64 ∧ ∀ m ∈ o.marks, m.count < two64) := ho.nums
  have HK1 := wlit_any wi base g [nn, o.epoch, o.seq, tn] v l HSI.out.wro.pen HSI.out.le (fun x hx => by
    have h1 := HU.out.1
    have h2 := HU.out.2.1
    unfold two64 at h1 h2
    simp only [List.mem_cons, List.not_mem_nil, or_false] at hx
    rcases hx with rfl | rfl | rfl | rfl <;> omega) (by show 4 ≤ 1000; omega) (by rw [List.length_append]; omega)
  unfold uc at HK1
  simp only [List.map_cons, List.map_nil, List.length_cons, List.length_nil] at HK1
  rw [hszi] at HK1
  have HK1 := Lib.hid HK1
  have HKT := Lib.hid fun W v2 L2 (hS : WSt w0 w W base g v v2 L2 w.heap.size 33 (oda o)) hl2 => wtxn_any w0 W base g o.t v2 L2 ho.txn hS.old hg hb0 hS.wro.pen hS.le hw.t hs.t hl2
  have hml := hs.m
  have hc2 : (oda o) = #[.int .i64 (nn : Int), .int .u64 (o.epoch : Int), .int .u64 (o.seq : Int), .int .i64 (tn : Int),
    .int .i64 o.t.kind, .slice o.t.ra o.t.reads.length o.t.rc, .slice o.t.wa o.t.writes.length o.t.wc, .slice o.t.oa o.t.ops.length o.t.oc, .int .i64 o.t.to, .slice o.ma o.marks.length o.mc] := by
    unfold oda
    rw [hnn, htn]
  rw [hc2] at hw1 HS1 HSI HKT
  unfold odv
  rw [hc2]
  unfold txv txa at HKT
  have e1 : ((nn : Int) % 18446744073709551616) = nn := by omega
  have e2 : ((tn : Int) % 18446744073709551616) = tn := by omega
  have HSZI := Lib.hid hszi
  clear ho hp hw h0 hl hs hlen hnn htn hnb htb hc2 hszi
  rw [hw1] at hwi
  go_enter Try.func34, Try.ntmps34
  go_wp2_with fail
  rw [← hwi]
  clear hwi hw1
  refine HK1.out.mono ?_
  rintro e w2 ⟨rfl, v2, hw2⟩
  have HS2 := Lib.hid (HSI.out.next hw2 hg hb0 (by decide) (by decide))
  clear hw2 HK1 e1 e2
  have q4 : w2.cell? ⟨w.heap.size, 4, none⟩ = some (.int .i64 o.t.kind) := HS2.out.bk.cell 4
  have q5 : w2.cell? ⟨w.heap.size, 5, none⟩ = some (.slice o.t.ra o.t.reads.length o.t.rc) := HS2.out.bk.cell 5
  have q6 : w2.cell? ⟨w.heap.size, 6, none⟩ = some (.slice o.t.wa o.t.writes.length o.t.wc) := HS2.out.bk.cell 6
  have q7 : w2.cell? ⟨w.heap.size, 7, none⟩ = some (.slice o.t.oa o.t.ops.length o.t.oc) := HS2.out.bk.cell 7
  have q8 : w2.cell? ⟨w.heap.size, 8, none⟩ = some (.int .i64 o.t.to) := HS2.out.bk.cell 8
  have HK2 := Lib.hid (HKT.out w2 v2 (l ++ nums [nn, o.epoch, o.seq, tn]) HS2.out (by have := HLEN.out; simp only [List.length_append]; omega))
  go_wp2_with fail
  refine HK2.out.mono ?_
  rintro e w3 ⟨rfl, v3, hw3⟩
  have HS3 := Lib.hid (HS2.out.next hw3 hg hb0 (by decide) (by decide))
  clear hw3 HK2 HKT q4 q5 q6 q7 q8
  have q9 : w3.cell? ⟨w.heap.size, 9, none⟩ = some (.slice o.ma o.marks.length o.mc) := HS3.out.bk.cell 9
  go_wp2_with fail
  clear q9
  go_loopw [31] (fun s wr => ∃ (k : Nat) (v' : Value), k ≤ o.marks.length ∧ s = .int .i64 k ∧ Hid (WS w0 w wr base g v v' (l ++ (nums [nn, o.epoch, o.seq, tn] ++ (txnB o.t ++ (o.marks.take k).flatMap markB))))) (fun s _ => o.marks.length - (intOf s).toNat)
  case atStart =>
    refine ⟨0, v3, by omega, rfl, ?_⟩
    show WS _ _ _ _ _ _ _ _
    have h := HS3.out.ws
    simpa [List.append_assoc] using h
  case round =>
    obtain ⟨k, v6, hk, rfl, HW⟩ := hrel
    by_cases hlt : k < o.marks.length
    · obtain ⟨m, hm⟩ : ∃ m, o.marks[k]? = some m := ⟨_, List.getElem?_eq_getElem hlt⟩
      obtain ⟨b, o', hA, x0, x1, x2⟩ := (HO.out.marks.nofr HW.out.old).mark hm
      have hxb := HWM.out m (List.mem_of_getElem? hm)
      obtain ⟨hn, hhn⟩ : ∃ hn : Nat, m.home = hn := ⟨m.home.toNat, by omega⟩
      have hkb : hn ≤ 1000 := by omega
      have HCB := Lib.hid (HU.out.2.2 m (List.mem_of_getElem? hm))
      have HSN := Lib.hid (flat_snoc markB o.marks k m hm)
      have HMB : Hid (markB m = nums [hn, m.count]) := by
        show _ = _
        unfold markB
        rw [hhn]
        rfl
      have hLn : (l ++ (nums [nn, o.epoch, o.seq, tn] ++ (txnB o.t ++ (o.marks.take k).flatMap markB))).length + (nums [hn, m.count]).length ≤ 100000000 := by
        have h1 := HLEN.out
        have h2 := flat_le markB o.marks (k + 1)
        rw [HSN.out, HMB.out] at h2
        simp only [List.length_append] at h1 h2 ⊢
        omega
      rw [hhn] at x1
      clear hm hxb
      obtain ⟨wb, hwb⟩ : ∃ wb, wb = wr.alloc (.cells #[st m.key, .int .i64 (hn : Int), .int .u64 (m.count : Int)] 44) := ⟨_, rfl⟩
      have HB0 : Hid (WSt w0 w wb base g v v6 (l ++ (nums [nn, o.epoch, o.seq, tn] ++ (txnB o.t ++ (o.marks.take k).flatMap markB))) wr.heap.size 44 #[st m.key, .int .i64 (hn : Int), .int .u64 (m.count : Int)]) := by
        show WSt _ _ _ _ _ _ _ _ _ _ _
        rw [hwb]
        exact HW.out.box _ _
      have hszb : wb.heap.size = wr.heap.size + 1 := by rw [hwb]; simp
      have HK6 := wlit_any wb base g [hn, m.count] v6 _ HB0.out.wro.pen HB0.out.le (fun y hy => by
        have h1 := HCB.out
        unfold two64 at h1
        simp only [List.mem_cons, List.not_mem_nil, or_false] at hy
        rcases hy with rfl | rfl <;> omega) (by show 2 ≤ 1000; omega) (by rw [List.length_append]; exact hLn)
      unfold uc at HK6
      simp only [List.map_cons, List.map_nil, List.length_cons, List.length_nil] at HK6
      rw [hszb] at HK6
      have HK6 := Lib.hid HK6
      have e6 : ((hn : Int) % 18446744073709551616) = hn := by omega
      unfold st at hwb
      rw [hA]
      clear hszb hkb hLn hhn
      go_wp2_with fail
      rw [← hwb]
      clear hwb
      refine HK6.out.mono ?_
      rintro e w7 ⟨rfl, v7, hw7⟩
      have HX : Hid (WS w0 w w7 base g v v7 (l ++ (nums [nn, o.epoch, o.seq, tn] ++ (txnB o.t ++ (o.marks.take (k + 1)).flatMap markB)))) := by
        show WS _ _ _ _ _ _ _ _
        have h := HB0.out.ws.next hw7 hg hb0
        rw [HSN.out, HMB.out]
        simpa [List.append_assoc] using h
      clear hw7 HK6 e6 x0 x1 x2
      go_wp2_with fail
      go_roundw
      case rel => exact ⟨k + 1, v7, by omega, by go_num, HX⟩
      case measure => simp [intOf]; omega
    · have HTK : Hid (o.marks.take k = o.marks) := List.take_of_length_le (by omega)
      have hw := HW.out.wro
      rw [HTK.out, ← HOB.out] at hw
      have HW2 := Lib.hid hw
      clear hw
      go_wp2_with fail
      go_end0
      exact ⟨rfl, _, HW2.out⟩
end Go.Proofs.Ytakbjjohfcgaoaa
