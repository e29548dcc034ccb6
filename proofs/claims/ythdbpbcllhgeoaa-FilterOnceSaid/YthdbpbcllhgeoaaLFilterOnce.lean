/- FilterOnce is true: of the entries that count no two are the same run's, and the pieces among them rise. No condition. -/
import Derived.Test.YthdbpbcllhgeoaaLawp
import Derived.Test.YthdbpbcllhgeoaaSpk14
import Derived.Test.YthdbpbcllhgeoaaGr14
namespace Go.Proofs.Ythdbpbcllhgeoaa.filterOnce
open Go.ChangeShapes Go.WideShapes Go.ChangeAt Go.RowKit Go.Maps

theorem piece_run {la : Int} {i : Im} (h : pieceB la i = true) : runB i = false := by
  unfold pieceB at h
  unfold runB
  by_cases hk : i.kind = 1
  · rw [hk] at h
    cases h
  · simp [hk]
theorem once1 (rg la : Int) (m : Tg → Bool) (i : Im) : countB rg (lastB rg la i) (tagsB rg m i) i = false := by
  unfold countB
  cases hh : homeB rg i
  · rfl
  cases hr : runB i
  · simp only [Bool.true_and, Bool.false_eq_true, if_false]
    cases hp : pieceB la i
    · unfold lastB
      rw [hh, hr, hp]
      simpa using hp
    · unfold lastB
      rw [hh, hr, hp]
      simp [pieceB]
  · unfold tagsB
    rw [hh, hr]
    simp [addT]
theorem once2 (rg la : Int) (i : Im) : lastB rg (lastB rg la i) i = lastB rg la i := by
  have h : ∀ la, lastB rg la i = la ∨ lastB rg la i = i.index := fun la => by
    unfold lastB
    split
    · exact .inr rfl
    · exact .inl rfl
  rcases h la with e | e
  · rw [e]
    exact e
  · rw [e]
    rcases h i.index with e | e <;> exact e
theorem once3 (rg : Int) (m : Tg → Bool) (i : Im) : tagsB rg (tagsB rg m i) i = tagsB rg m i := by
  unfold tagsB
  split
  · rw [addT_old]
    simp [addT]
  · rfl
theorem no1 {rg la : Int} {m : Tg → Bool} {i : Im} (h : countB rg la m i = false) : lastB rg la i = la ∧ tagsB rg m i = m := by
  unfold countB at h
  unfold lastB tagsB
  cases hh : homeB rg i
  · exact ⟨rfl, rfl⟩
  rw [hh] at h
  cases hr : runB i
  · rw [hr] at h
    simp only [Bool.true_and, Bool.false_eq_true, if_false] at h
    rw [h]
    exact ⟨rfl, rfl⟩
  · rw [hr] at h
    simp only [Bool.true_and, if_true, Bool.not_eq_false'] at h
    exact ⟨rfl, addT_old h⟩
theorem yes_run {rg la : Int} {m : Tg → Bool} {i : Im} (h : countB rg la m i = true) (hk : i.kind = 1) : lastB rg la i = la ∧ tagsB rg m i = addT m (tgOf i.o) ∧ m (tgOf i.o) = false := by
  unfold countB at h
  unfold lastB tagsB
  cases hh : homeB rg i
  · rw [hh] at h
    cases h
  rw [hh] at h
  cases hr : runB i
  · rw [hr] at h
    simp [pieceB, hk] at h
  · rw [hr] at h
    simp only [Bool.true_and, if_true, Bool.not_eq_true'] at h
    exact ⟨rfl, rfl, h⟩
theorem yes_piece {rg la : Int} {m : Tg → Bool} {i : Im} (h : countB rg la m i = true) (hk : i.kind ≠ 1) : lastB rg la i = i.index ∧ tagsB rg m i = m ∧ la < i.index := by
  unfold countB at h
  unfold lastB tagsB
  cases hh : homeB rg i
  · rw [hh] at h
    cases h
  rw [hh] at h
  have hr : runB i = false := by unfold runB; simp [hk]
  rw [hr] at h
  simp only [Bool.true_and, Bool.false_eq_true, if_false] at h
  rw [hr, h]
  refine ⟨rfl, rfl, ?_⟩
  unfold pieceB at h
  simp only [Bool.and_eq_true, decide_eq_true_eq] at h
  exact h.2.2

/-- runs as the law writes them down. -/
def runsM (m : Tg → Bool) : Tg → Option Value := fun t => if m t then some (.bool true) else none
theorem runsM_some (m : Tg → Bool) (t : Tg) : (runsM m t).isSome = m t := by unfold runsM; cases m t <;> rfl
theorem runsM_no {m : Tg → Bool} {t : Tg} (h : m t = false) : (runsM m t).getD (.bool false) = .bool false := by unfold runsM; rw [h]; rfl
theorem runsM_put (m : Tg → Bool) (t : Tg) : updG (runsM m) t (some (.bool true)) = runsM (addT m t) := by
  funext y
  unfold updG runsM addT
  by_cases e : y = t
  · simp [e]
  · simp [e]
theorem zeroBool (w : World) : (zeroValue 4).run Try.prog w = .ok (.bool false) w := by kernel_rfl

/-- both filters and the runs behind n entries. -/
structure OnAt (w wr : World) (B1 B2 g1 b1 g2 b2 bR n : Nat) (rg la : Int) (m : Tg → Bool) : Prop where
  f : ∃ s, s ≤ n ∧ Fl wr B1 g1 b1 s rg la m
  g : ∃ s, s ≤ 2 * n ∧ Fl wr B2 g2 b2 s rg la m
  r : ∃ s, s ≤ n ∧ Kg Try.prog 31 tgl TgOk wr bR s (runsM m)
  fr : Fr NoBlk w wr

set_option maxRecDepth 100000 in
set_option maxHeartbeats 4000000 in
theorem walk (w : World) (rg : Int) (A : Option Addr) (c : Nat) (xs : List Im) (hr : Rd w A (imsc xs)) (hx : ∀ i ∈ xs, OdIn w i.o ∧ TgOk (tgOf i.o)) (hm : xs.length ≤ 9223372036854775807) :
    Calls Try.prog 5 #[.int .i64 rg, .slice A xs.length c] w fun e w' => e = .returned (.bool true) ∧ Fr NoBlk w w' := by
  have HR := Lib.hid hr
  have HX := Lib.hid hx
  clear hr hx
  go_enter Try.func5, Try.ntmps5
  go_wp2_with fail
  refine (speaks_any _).mono ?_
  rintro e w1 ⟨rfl, hf1⟩
  have HF1 := Lib.hid hf1
  clear hf1
  have HG := Lib.hid (great14_any w1 A c xs (HR.out.nofr HF1.out) (fun i hi => (HX.out i hi).1.nofr HF1.out) hm)
  go_wp2_with fail
  refine HG.out.mono ?_
  clear HG
  rintro e w2 ⟨⟨bb, rfl, hgr⟩, hf2⟩
  have HF2 := Lib.hid (HF1.out.trans hf2)
  clear hf2 HF1
  cases bb with
  | true =>
    clear hgr
    go_wp2_with fail
    go_ret
    exact ⟨rfl, HF2.out⟩
  | false =>
  have HLL := Lib.hid (hgr.out rfl).1
  have HMK := Lib.hid (hgr.out rfl).2
  clear hgr
  by_cases h0 : rg < 0
  · go_wp2_with fail
    go_ret
    exact ⟨rfl, HF2.out⟩
  have h0' : (0 : Int) ≤ rg := by omega
  clear h0
  by_cases h2 : 2 < rg
  · go_wp2_with fail
    go_ret
    exact ⟨rfl, HF2.out⟩
  have h2' : rg ≤ (2 : Int) := by omega
  clear h2
  go_wp2_with fail
  refine (fregion_any _ _).mono ?_
  rintro e w3 ⟨g1, b1, rfl, h3, hf3⟩
  have HF3 := Lib.hid (HF2.out.trans hf3)
  obtain ⟨B1, hB1⟩ : ∃ B, B = w2.heap.size := ⟨_, rfl⟩
  have HS1 : Hid (w.heap.size ≤ B1) := by show _ ≤ _; have := HF2.out.size; omega
  rw [← hB1] at h3
  have H3 := Lib.hid h3
  clear hf3 h3 hB1 HF2
  go_wp2_with fail
  refine (fregion_any _ _).mono ?_
  rintro e w4 ⟨g2, b2, rfl, h4, hf4⟩
  have HF4 := Lib.hid (HF3.out.trans hf4)
  obtain ⟨B2, hB2⟩ : ∃ B, B = w3.heap.size := ⟨_, rfl⟩
  have HS2 : Hid (w.heap.size ≤ B2 ∧ g1 < B2 ∧ b1 < B2) := ⟨by have := HF3.out.size; omega, by have := H3.out.bk.lt; omega, by have := H3.out.mp.lt; omega⟩
  rw [← hB2] at h4
  have H4 := Lib.hid h4
  have H34 := Lib.hid (H3.out.nofr hf4)
  clear hf4 h4 hB2 HF3 H3
  obtain ⟨bR, hbR⟩ : ∃ bR, bR = w4.heap.size := ⟨_, rfl⟩
  obtain ⟨w5, hw5⟩ : ∃ w5, w5 = w4.alloc (.map #[] 0) := ⟨_, rfl⟩
  have HST : Hid (OnAt w w5 B1 B2 g1 b1 g2 b2 bR 0 rg (-1) fun _ => false) := by
    have hf : Fr NoBlk w4 w5 := by rw [hw5]; exact (Fr.refl _ _).alloc _
    refine ⟨⟨0, Nat.le_refl _, H34.out.nofr hf⟩, ⟨0, Nat.zero_le _, H4.out.nofr hf⟩, ⟨0, Nat.le_refl _, ?_⟩, HF4.out.trans hf⟩
    rw [hw5, hbR]
    exact Kg.new w4
  have HS3 : Hid (w.heap.size ≤ bR ∧ g2 < bR ∧ b2 < bR ∧ B2 ≤ g2 ∧ B2 ≤ b2 ∧ B1 ≤ g1 ∧ B1 ≤ b1 ∧ B2 ≤ bR) := ⟨by have := HF4.out.size; omega, by have := H4.out.bk.lt; omega, by have := H4.out.mp.lt; omega, H4.out.b1, H4.out.b2, H34.out.b1, H34.out.b2, by have := H4.out.bk.lt; have := H4.out.b1; omega⟩
  have HW5 := Lib.hid hw5
  have HBR := Lib.hid hbR
  clear hw5 hbR H34 H4 HF4
  have hmm := @run_makeMap Try.prog
  go_wp2_with fail
  rw [← HW5.out, ← HBR.out]
  clear hmm HW5 HBR
  go_loopw [8, 39] (fun lz z wr => ∃ (n : Nat) (lv : Int) (m : Tg → Bool), n ≤ xs.length ∧ z = .int .i64 n ∧ lz = .int .i64 lv ∧ Hid (OnAt w wr B1 B2 g1 b1 g2 b2 bR n rg lv m)) (fun _ z _ => xs.length - (intOf z).toNat)
  case atStart => exact ⟨0, -1, _, by omega, rfl, rfl, HST⟩
  case round =>
    obtain ⟨n, lv, m, hn, rfl, rfl, HAT⟩ := hrel
    clear HST
    by_cases hlt : n < xs.length
    · obtain ⟨i, hi⟩ : ∃ i, xs[n]? = some i := ⟨_, List.getElem?_eq_getElem hlt⟩
      obtain ⟨ho1, ho2⟩ := HX.out i (List.mem_of_getElem? hi)
      have hmk := HMK.out i (List.mem_of_getElem? hi)
      obtain ⟨⟨s1, hs1, f1⟩, ⟨s2, hs2, f2⟩, ⟨s3, hs3, f3⟩, hfr⟩ := HAT.out
      obtain ⟨Bx, O, hA, hc⟩ := (HR.out.nofr hfr).item hi
      have c0 : wr.cell? ⟨Bx, O + n * 12, none⟩ = some (.int .i64 i.kind) := hc 0 _ rfl
      have c1 : wr.cell? ⟨Bx, O + n * 12 + 1, none⟩ = some (.int .i64 i.index) := hc 1 _ rfl
      have c2 : wr.cell? ⟨Bx, O + n * 12 + 2, none⟩ = some (.int .i64 i.o.node) := hc 2 _ rfl
      have c3 : wr.cell? ⟨Bx, O + n * 12 + 3, none⟩ = some (.int .u64 (i.o.epoch : Int)) := hc 3 _ rfl
      have c4 : wr.cell? ⟨Bx, O + n * 12 + 4, none⟩ = some (.int .u64 (i.o.seq : Int)) := hc 4 _ rfl
      have c5 : wr.cell? ⟨Bx, O + n * 12 + 5, none⟩ = some (.int .i64 i.o.tr) := hc 5 _ rfl
      have c6 : wr.cell? ⟨Bx, O + n * 12 + 6, none⟩ = some (.int .i64 i.o.t.kind) := hc 6 _ rfl
      have c7 : wr.cell? ⟨Bx, O + n * 12 + 7, none⟩ = some (.slice i.o.t.ra i.o.t.reads.length i.o.t.rc) := hc 7 _ rfl
      have c8 : wr.cell? ⟨Bx, O + n * 12 + 8, none⟩ = some (.slice i.o.t.wa i.o.t.writes.length i.o.t.wc) := hc 8 _ rfl
      have c9 : wr.cell? ⟨Bx, O + n * 12 + 9, none⟩ = some (.slice i.o.t.oa i.o.t.ops.length i.o.t.oc) := hc 9 _ rfl
      have c10 : wr.cell? ⟨Bx, O + n * 12 + 10, none⟩ = some (.int .i64 i.o.t.to) := hc 10 _ rfl
      have c11 : wr.cell? ⟨Bx, O + n * 12 + 11, none⟩ = some (.slice i.o.ma i.o.marks.length i.o.mc) := hc 11 _ rfl
      have i1 : (0 : Int) ≤ (n : Int) := by omega
      have i2 : (n : Int) < (xs.length : Int) := by omega
      obtain ⟨q, hq⟩ : ∃ q, q = wr.heap.size := ⟨_, rfl⟩
      obtain ⟨wa, hwa⟩ : ∃ wa, wa = wr.alloc (.cells (ima i) 40) := ⟨_, rfl⟩
      have hfa : Fr NoBlk wr wa := by rw [hwa]; exact (Fr.refl _ _).alloc _
      have hba : Bk wa q 40 (ima i) := by rw [hwa, hq]; exact Bk.new _ _ _
      have HBM : Hid (∀ W, Fr (fun b => B1 ≤ b ∧ b ≤ bR) wa W → Fr NoBlk w W) := fun W hW => (hfr.trans hfa).step hW fun k hk e => by have := HS1.out; omega
      have HSD : Hid (∀ W, Fr (fun b => B1 ≤ b ∧ b ≤ bR) wa W → Bk W q 40 #[.int .i64 i.kind, .int .i64 i.index, .int .i64 i.o.node, .int .u64 (i.o.epoch : Int), .int .u64 (i.o.seq : Int), .int .i64 i.o.tr, .int .i64 i.o.t.kind, .slice i.o.t.ra i.o.t.reads.length i.o.t.rc, .slice i.o.t.wa i.o.t.writes.length i.o.t.wc, .slice i.o.t.oa i.o.t.ops.length i.o.t.oc, .int .i64 i.o.t.to, .slice i.o.ma i.o.marks.length i.o.mc]) := fun W hW => hba.fr hW fun e => by have := f3.lt; omega
      have HOI : Hid (∀ W, Fr (fun b => B1 ≤ b ∧ b ≤ bR) wa W → OdIn W i.o) := fun W hW => ho1.nofr (HBM.out W hW)
      have HI1 := Lib.hid (fitem_any wa B1 g1 b1 s1 rg lv m (f1.nofr hfa) (by have := HLL.out; omega) i (HOI.out _ (Fr.refl _ _)) hmk ho2)
      have HK1 := Lib.hid (And.intro hs1 (And.intro hs2 (And.intro hs3 (And.intro (f2.nofr hfa) (f3.fr hfa fun e => e)))))
      have HTK := Lib.hid ho2
      have HMI := Lib.hid hmk
      have HWA := Lib.hid hwa
      have HQ := Lib.hid hq
      have d0 : wa.cell? ⟨q, 0, none⟩ = some (.int .i64 i.kind) := hba.cell 0
      have d1 : wa.cell? ⟨q, 1, none⟩ = some (.int .i64 i.index) := hba.cell 1
      have d2 : wa.cell? ⟨q, 2, none⟩ = some (.int .i64 i.o.node) := hba.cell 2
      have d3 : wa.cell? ⟨q, 3, none⟩ = some (.int .u64 (i.o.epoch : Int)) := hba.cell 3
      have d4 : wa.cell? ⟨q, 4, none⟩ = some (.int .u64 (i.o.seq : Int)) := hba.cell 4
      have d5 : wa.cell? ⟨q, 5, none⟩ = some (.int .i64 i.o.tr) := hba.cell 5
      have d6 : wa.cell? ⟨q, 6, none⟩ = some (.int .i64 i.o.t.kind) := hba.cell 6
      have d7 : wa.cell? ⟨q, 7, none⟩ = some (.slice i.o.t.ra i.o.t.reads.length i.o.t.rc) := hba.cell 7
      have d8 : wa.cell? ⟨q, 8, none⟩ = some (.slice i.o.t.wa i.o.t.writes.length i.o.t.wc) := hba.cell 8
      have d9 : wa.cell? ⟨q, 9, none⟩ = some (.slice i.o.t.oa i.o.t.ops.length i.o.t.oc) := hba.cell 9
      have d10 : wa.cell? ⟨q, 10, none⟩ = some (.int .i64 i.o.t.to) := hba.cell 10
      have d11 : wa.cell? ⟨q, 11, none⟩ = some (.slice i.o.ma i.o.marks.length i.o.mc) := hba.cell 11
      subst hA
      clear hc hi ho1 ho2 hmk hwa hq hfa hba f1 f2 f3 hs1 hs2 hs3 hfr HAT
      unfold ima at HWA
      unfold imv ima at HI1
      go_wp2_with fail
      rw [← HWA.out, ← HQ.out]
      clear HWA HQ c0 c1 c2 c3 c4 c5 c6 c7 c8 c9 c10 c11
      go_wp2_with fail
      refine HI1.out.mono ?_
      clear HI1 d0 d1 d2 d3 d4 d5 d6 d7 d8 d9 d10 d11
      rintro e wb ⟨rfl, hf1', hfb⟩
      have HFB : Hid (Fr (fun b => B1 ≤ b ∧ b ≤ bR) wa wb) := hfb.mono fun k _ e => by have := HS2.out; have := HS3.out; show B1 ≤ k ∧ k ≤ bR; rcases e with rfl | rfl <;> omega
      have HF1' := Lib.hid hf1'
      have HK2 : Hid (Fl wb B2 g2 b2 s2 rg lv m ∧ Kg Try.prog 31 tgl TgOk wb bR s3 (runsM m)) := by
        obtain ⟨_, _, _, f2, f3⟩ := HK1.out
        have := HS2.out
        have := HS3.out
        exact ⟨f2.fr hfb (fun e => by omega) (fun e => by omega), f3.fr hfb fun e => by omega⟩
      obtain ⟨cb, hcb⟩ : ∃ cb, cb = countB rg lv m i := ⟨_, rfl⟩
      rw [← hcb]
      have HCB := Lib.hid hcb
      clear hfb hf1' hcb
      have HI2 := Lib.hid (fitem_any wb B2 g2 b2 s2 rg lv m HK2.out.1 (by have := HLL.out; have := HK1.out.2.1; omega) i (HOI.out _ HFB.out) HMI.out HTK.out)
      unfold imv ima at HI2
      have d0 : wb.cell? ⟨q, 0, none⟩ = some (.int .i64 i.kind) := (HSD.out _ HFB.out).cell 0
      have d1 : wb.cell? ⟨q, 1, none⟩ = some (.int .i64 i.index) := (HSD.out _ HFB.out).cell 1
      have d2 : wb.cell? ⟨q, 2, none⟩ = some (.int .i64 i.o.node) := (HSD.out _ HFB.out).cell 2
      have d3 : wb.cell? ⟨q, 3, none⟩ = some (.int .u64 (i.o.epoch : Int)) := (HSD.out _ HFB.out).cell 3
      have d4 : wb.cell? ⟨q, 4, none⟩ = some (.int .u64 (i.o.seq : Int)) := (HSD.out _ HFB.out).cell 4
      have d5 : wb.cell? ⟨q, 5, none⟩ = some (.int .i64 i.o.tr) := (HSD.out _ HFB.out).cell 5
      have d6 : wb.cell? ⟨q, 6, none⟩ = some (.int .i64 i.o.t.kind) := (HSD.out _ HFB.out).cell 6
      have d7 : wb.cell? ⟨q, 7, none⟩ = some (.slice i.o.t.ra i.o.t.reads.length i.o.t.rc) := (HSD.out _ HFB.out).cell 7
      have d8 : wb.cell? ⟨q, 8, none⟩ = some (.slice i.o.t.wa i.o.t.writes.length i.o.t.wc) := (HSD.out _ HFB.out).cell 8
      have d9 : wb.cell? ⟨q, 9, none⟩ = some (.slice i.o.t.oa i.o.t.ops.length i.o.t.oc) := (HSD.out _ HFB.out).cell 9
      have d10 : wb.cell? ⟨q, 10, none⟩ = some (.int .i64 i.o.t.to) := (HSD.out _ HFB.out).cell 10
      have d11 : wb.cell? ⟨q, 11, none⟩ = some (.slice i.o.ma i.o.marks.length i.o.mc) := (HSD.out _ HFB.out).cell 11
      go_wp2_with fail
      refine HI2.out.mono ?_
      clear HI2 d0 d1 d2 d3 d4 d5 d6 d7 d8 d9 d10 d11
      rintro e wc ⟨he, ⟨s2', hs2', f2'⟩, hfc⟩
      rw [← HCB.out] at he
      obtain rfl := he
      have HFC : Hid (Fr (fun b => B1 ≤ b ∧ b ≤ bR) wa wc) := HFB.out.trans (hfc.mono fun k _ e => by have := HS2.out; have := HS3.out; show B1 ≤ k ∧ k ≤ bR; rcases e with rfl | rfl <;> omega)
      have HF1c : Hid (∃ s', s' ≤ s1 + 1 ∧ Fl wc B1 g1 b1 s' rg (lastB rg lv i) (tagsB rg m i)) := by
        obtain ⟨s', hs', f⟩ := HF1'.out
        have := HS2.out
        have := HS3.out
        exact ⟨s', hs', f.fr hfc (fun e => by omega) (fun e => by omega)⟩
      have HK3 : Hid (Kg Try.prog 31 tgl TgOk wc bR s3 (runsM m)) := by
        show Kg _ _ _ _ _ _ _ _
        have := HS2.out
        have := HS3.out
        exact HK2.out.2.fr hfc fun e => by omega
      have HI3 := Lib.hid (fitem_any wc B2 g2 b2 s2' rg _ _ f2' (by have := HLL.out; have := HK1.out.2.1; omega) i (HOI.out _ HFC.out) HMI.out HTK.out)
      unfold ItemPost at HI3
      rw [once1, once2, once3] at HI3
      unfold imv ima at HI3
      have HS2' := Lib.hid hs2'
      clear hfc f2' hs2' HF1' HK2
      have d0 : wc.cell? ⟨q, 0, none⟩ = some (.int .i64 i.kind) := (HSD.out _ HFC.out).cell 0
      have d1 : wc.cell? ⟨q, 1, none⟩ = some (.int .i64 i.index) := (HSD.out _ HFC.out).cell 1
      have d2 : wc.cell? ⟨q, 2, none⟩ = some (.int .i64 i.o.node) := (HSD.out _ HFC.out).cell 2
      have d3 : wc.cell? ⟨q, 3, none⟩ = some (.int .u64 (i.o.epoch : Int)) := (HSD.out _ HFC.out).cell 3
      have d4 : wc.cell? ⟨q, 4, none⟩ = some (.int .u64 (i.o.seq : Int)) := (HSD.out _ HFC.out).cell 4
      have d5 : wc.cell? ⟨q, 5, none⟩ = some (.int .i64 i.o.tr) := (HSD.out _ HFC.out).cell 5
      have d6 : wc.cell? ⟨q, 6, none⟩ = some (.int .i64 i.o.t.kind) := (HSD.out _ HFC.out).cell 6
      have d7 : wc.cell? ⟨q, 7, none⟩ = some (.slice i.o.t.ra i.o.t.reads.length i.o.t.rc) := (HSD.out _ HFC.out).cell 7
      have d8 : wc.cell? ⟨q, 8, none⟩ = some (.slice i.o.t.wa i.o.t.writes.length i.o.t.wc) := (HSD.out _ HFC.out).cell 8
      have d9 : wc.cell? ⟨q, 9, none⟩ = some (.slice i.o.t.oa i.o.t.ops.length i.o.t.oc) := (HSD.out _ HFC.out).cell 9
      have d10 : wc.cell? ⟨q, 10, none⟩ = some (.int .i64 i.o.t.to) := (HSD.out _ HFC.out).cell 10
      have d11 : wc.cell? ⟨q, 11, none⟩ = some (.slice i.o.ma i.o.marks.length i.o.mc) := (HSD.out _ HFC.out).cell 11
      go_wp2_with fail
      refine HI3.out.mono ?_
      clear HI3 d0 d1 d2 d3 d4 d5 d6 d7 d8 d9 d10 d11
      rintro e wd ⟨rfl, ⟨s2'', hs2'', f2''⟩, hfd⟩
      have HFD : Hid (Fr (fun b => B1 ≤ b ∧ b ≤ bR) wa wd) := HFC.out.trans (hfd.mono fun k _ e => by have := HS2.out; have := HS3.out; show B1 ≤ k ∧ k ≤ bR; rcases e with rfl | rfl <;> omega)
      have HF1d : Hid (∃ s', s' ≤ s1 + 1 ∧ Fl wd B1 g1 b1 s' rg (lastB rg lv i) (tagsB rg m i)) := by
        obtain ⟨s', hs', f⟩ := HF1c.out
        have := HS2.out
        have := HS3.out
        exact ⟨s', hs', f.fr hfd (fun e => by omega) (fun e => by omega)⟩
      have HK4 : Hid (Kg Try.prog 31 tgl TgOk wd bR s3 (runsM m)) := by
        show Kg _ _ _ _ _ _ _ _
        have := HS2.out
        have := HS3.out
        exact HK3.out.fr hfd fun e => by omega
      have HF2d : Hid (∃ s', s' ≤ s2 + 2 ∧ Fl wd B2 g2 b2 s' rg (lastB rg lv i) (tagsB rg m i)) := ⟨s2'', by have := HS2'.out; omega, f2''⟩
      clear hfd hs2'' f2'' HS2' HF1c HK3 HFC HFB
      cases cb with
      | false =>
        obtain ⟨e1, e2⟩ := no1 HCB.out.symm
        rw [e1, e2] at HF1d HF2d
        clear e1 e2
        go_wp2_with fail
        go_roundw
        case rel =>
          refine ⟨n + 1, lv, m, by omega, by go_num, rfl, ?_⟩
          obtain ⟨s', hs', f⟩ := HF1d.out
          obtain ⟨s'', hs'', g⟩ := HF2d.out
          have hk := HK1.out
          exact ⟨⟨s', by omega, f⟩, ⟨s'', by omega, g⟩, ⟨s3, by omega, HK4.out⟩, HBM.out _ HFD.out⟩
        case measure => simp [intOf]; omega
      | true =>
        by_cases hk : i.kind = 1
        · obtain ⟨e1, e2, e3⟩ := yes_run HCB.out.symm hk
          rw [e1, e2] at HF1d HF2d
          have hk1 : ((i.kind : Int) == 1) = true := beq_iff_eq.2 hk
          have hlk := HK4.out.look1 tagKeyT Try.underlying52 (zeroBool wd) HTK.out
          rw [runsM_no e3] at hlk
          obtain ⟨we, hput, hkg, hfe⟩ := Kg.put HK4.out tagKeyT Try.underlying52 (by have := HK1.out.2.2.1; have := HLL.out; unfold maxLen; omega) HTK.out (.bool true)
          rw [runsM_put, runsM_some, e3] at hkg
          have HKG := Lib.hid hkg
          have HFE := Lib.hid hfe
          unfold tgv tgOf at hlk hput
          dsimp only at hlk hput
          have d0 : wd.cell? ⟨q, 0, none⟩ = some (.int .i64 i.kind) := (HSD.out _ HFD.out).cell 0
          have d1 : wd.cell? ⟨q, 1, none⟩ = some (.int .i64 i.index) := (HSD.out _ HFD.out).cell 1
          have d2 : wd.cell? ⟨q, 2, none⟩ = some (.int .i64 i.o.node) := (HSD.out _ HFD.out).cell 2
          have d3 : wd.cell? ⟨q, 3, none⟩ = some (.int .u64 (i.o.epoch : Int)) := (HSD.out _ HFD.out).cell 3
          have d4 : wd.cell? ⟨q, 4, none⟩ = some (.int .u64 (i.o.seq : Int)) := (HSD.out _ HFD.out).cell 4
          have d5 : wd.cell? ⟨q, 5, none⟩ = some (.int .i64 i.o.tr) := (HSD.out _ HFD.out).cell 5
          have d6 : wd.cell? ⟨q, 6, none⟩ = some (.int .i64 i.o.t.kind) := (HSD.out _ HFD.out).cell 6
          clear e1 e2 e3 hk hkg hfe HK4
          go_wp2_with fail
          go_roundw
          case rel =>
            refine ⟨n + 1, lv, addT m (tgOf i.o), by omega, by go_num, rfl, ?_⟩
            obtain ⟨s', hs', f⟩ := HF1d.out
            obtain ⟨s'', hs'', g⟩ := HF2d.out
            have hk := HK1.out
            have := HS2.out
            have := HS3.out
            refine ⟨⟨s', by omega, f.fr HFE.out (fun e => by omega) (fun e => by omega)⟩, ⟨s'', by omega, g.fr HFE.out (fun e => by omega) (fun e => by omega)⟩, ⟨s3 + 1, by omega, HKG.out⟩, HBM.out _ (HFD.out.trans (HFE.out.mono fun k _ e => ?_))⟩
            show B1 ≤ k ∧ k ≤ bR
            have := HS1.out
            omega
          case measure => simp [intOf]; omega
        · obtain ⟨e1, e2, e3⟩ := yes_piece HCB.out.symm hk
          rw [e1, e2] at HF1d HF2d
          have hk1 : ((i.kind : Int) == 1) = false := beq_eq_false_iff_ne.2 hk
          have d0 : wd.cell? ⟨q, 0, none⟩ = some (.int .i64 i.kind) := (HSD.out _ HFD.out).cell 0
          have d1 : wd.cell? ⟨q, 1, none⟩ = some (.int .i64 i.index) := (HSD.out _ HFD.out).cell 1
          have d2 : wd.cell? ⟨q, 2, none⟩ = some (.int .i64 i.o.node) := (HSD.out _ HFD.out).cell 2
          have d3 : wd.cell? ⟨q, 3, none⟩ = some (.int .u64 (i.o.epoch : Int)) := (HSD.out _ HFD.out).cell 3
          have d4 : wd.cell? ⟨q, 4, none⟩ = some (.int .u64 (i.o.seq : Int)) := (HSD.out _ HFD.out).cell 4
          have d5 : wd.cell? ⟨q, 5, none⟩ = some (.int .i64 i.o.tr) := (HSD.out _ HFD.out).cell 5
          have d6 : wd.cell? ⟨q, 6, none⟩ = some (.int .i64 i.o.t.kind) := (HSD.out _ HFD.out).cell 6
          clear e1 e2 hk
          go_wp2_with fail
          go_roundw
          case rel =>
            refine ⟨n + 1, i.index, m, by omega, by go_num, rfl, ?_⟩
            obtain ⟨s', hs', f⟩ := HF1d.out
            obtain ⟨s'', hs'', g⟩ := HF2d.out
            have hk := HK1.out
            exact ⟨⟨s', by omega, f⟩, ⟨s'', by omega, g⟩, ⟨s3, by omega, HK4.out⟩, HBM.out _ HFD.out⟩
          case measure => simp [intOf]; omega
    · have i3 : (xs.length : Int) ≤ (n : Int) := by omega
      obtain ⟨⟨s1, hs1, f1⟩, ⟨s2, hs2, f2⟩, _, hfr⟩ := HAT.out
      have HL1 := Lib.hid (flast_any wr _ _ _ _ _ _ _ f1)
      have HL2 := Lib.hid (flast_any wr _ _ _ _ _ _ _ f2)
      have HFR := Lib.hid hfr
      clear f1 f2 hs1 hs2 hfr HAT
      go_wp2_with fail
      refine HL1.out.mono ?_
      rintro e _ ⟨rfl, rfl⟩
      clear HL1
      go_wp2_with fail
      refine HL2.out.mono ?_
      rintro e _ ⟨rfl, rfl⟩
      clear HL2
      go_wp2_with fail
      go_ret
      exact ⟨rfl, HFR.out⟩

theorem paramsOk : ∀ t ∈ Try.f5.params.toList, Try.prog.readableRec t = true ∧ t < Try.prog.types.size := fun t ht => by
  have h := List.all_eq_true.1 (show (Try.f5.params.toList.all fun t => Try.prog.readableRec t && decide (t < Try.prog.types.size)) = true by kernel_rfl) t ht
  simpa using h

set_option maxRecDepth 100000 in
theorem lifted (os : Os) (started : os.Started) (H : Type) (enc : TypeId × Value → H) :
    ReturnsInHanded {} Try.checked os 5 .any (Rows.filterOnceSpec.pre6 enc Try.prog Try.f5 Rows.filterOnceRow.domain false) (Rows.filterOnceSpec.post enc Try.prog Try.f5 false true false false) := by
  refine returnsInHanded_of_change (C := Try.checked) own started (by kernel_rfl) Try.func5
    (ChangeSpec.witness6 (enc := enc) (C := Try.checked) false ⟨#[], #[.int .i64 0, .slice none 0 0], []⟩ 8 (by kernel_rfl) (by kernel_rfl) (by kernel_rfl) (by kernel_rfl)) ?_
  intro W base args ds gs before hval0 hW _ _
  have hval : ∀ (j : Nat) t v, Try.f5.params[j]? = some t → args[j]? = some v → Value.okWide Try.prog W .any base t v := hval0
  have hW' := hW
  obtain ⟨p, q, hA0, hV, rfl, _, _⟩ := hW
  have hA : DataW.TrodAll enc Try.prog W 0 (fun _ => true) true Try.f5.params.toList args.toList ds p := hA0
  rw [Try.params5] at hA hval
  obtain ⟨v0, vs0, d0, ds0, p0, q0, hargs, rfl, rfl, h0, r0⟩ := trodAll_cons hA
  obtain ⟨v1, vs1, d1, ds1, p1, q1, rfl, rfl, rfl, h1, r1⟩ := trodAll_cons r0
  obtain ⟨rfl, rfl, rfl⟩ := trodAll_nil r1
  obtain rfl : args = #[v0, v1] := by cases args; simp_all
  obtain ⟨rfl, rfl⟩ := trodVars_none hV
  obtain ⟨r, rfl, rfl, rfl, wr⟩ := open_int Try.underlying3 (hval 0 _ v0 rfl rfl) h0
  obtain ⟨A, c, l, rfl, hr, hx, hn, hm⟩ := open_items (hval 1 _ v1 rfl rfl) h1
  have walk := walk W r A c l hr hx (Nat.le_trans hn hm)
  clear hA0 hval0
  refine walk.mono fun e W' ⟨he, hf⟩ => ?_
  subst he
  exact ⟨_, rfl, law_post laidOut paramsOk rfl rfl Try.underlying4 hW' rfl rfl rfl hf⟩

theorem said : Rows.FilterOnceSaid :=
  OpenClaim.holds_of_wide 5 Try.f5 rfl rfl rfl rfl rfl rfl rfl ⟨rfl, rfl, rfl, rfl, rfl⟩ rfl rfl rfl rfl rfl (by kernel_rfl) Try.func5 (by kernel_rfl)
    (of_decide_eq_true (by kernel_rfl)) (by unfold Func.isWrapper; first | (rw [if_pos (by decide +kernel)]; kernel_rfl) | (rw [if_neg (by decide +kernel)]; exact ⟨rfl, rfl⟩))
    (fun os started H enc _ => lifted os started H enc)
end Go.Proofs.Ythdbpbcllhgeoaa.filterOnce
