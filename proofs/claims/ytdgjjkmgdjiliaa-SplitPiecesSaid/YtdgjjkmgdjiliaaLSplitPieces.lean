/- SplitPieces is true: the pieces of any global log for any region, and the next one behind any, are told exactly. No condition. -/
import Derived.Test.YtdgjjkmgdjiliaaLawp
import Derived.Test.YtdgjjkmgdjiliaaSpk15
import Derived.Test.YtdgjjkmgdjiliaaGr15
import Derived.Test.YtdgjjkmgdjiliaaSpAll
namespace Go.Proofs.Ytdgjjkmgdjiliaa.splitPieces
open Go.ChangeShapes Go.WideShapes Go.ChangeAt Go.RowKit Go.Maps

set_option maxRecDepth 100000 in
set_option maxHeartbeats 2000000 in
theorem walk (w : World) (rg la : Int) (A : Option Addr) (c : Nat) (xs : List Od) (hr : Rd w A (odsc xs)) (hx : ∀ o ∈ xs, OdIn w o ∧ TgOk (tgOf o)) (hm : xs.length ≤ 9223372036854775807) :
    Calls Try.prog 9 #[.slice A xs.length c, .int .i64 rg, .int .i64 la] w fun e w' => e = .returned (.bool true) ∧ Fr NoBlk w w' := by
  have HR := Lib.hid hr
  have HX := Lib.hid hx
  clear hr hx
  go_enter Try.func9, Try.ntmps9
  go_wp2_with fail
  refine (speaks15_any _).mono ?_
  rintro e w1 ⟨rfl, hf1⟩
  have HF1 := Lib.hid hf1
  clear hf1
  have HG := Lib.hid (great15_any w1 A c xs (HR.out.nofr HF1.out) (fun i hi => (HX.out i hi).1.nofr HF1.out) hm)
  go_wp2_with fail
  refine HG.out.mono ?_
  clear HG
  rintro e w2 ⟨⟨bb, rfl, hgr⟩, hf2⟩
  have HF2 := Lib.hid (HF1.out.trans hf2)
  clear hf2 HF1
  cases bb with
  | true =>
    clear hgr
    go_wp2_with fail
    go_ret
    exact ⟨rfl, HF2.out⟩
  | false =>
  have HLL := Lib.hid (hgr.out rfl).1
  have HSM := Lib.hid (hgr.out rfl).2
  have hl30 : xs.length ≤ 30 := HLL.out
  clear hgr
  have HLG : Hid (∀ W, Fr NoBlk w W → LogIn W A xs) := fun W hW => (LogIn.of HR.out HX.out HSM.out HLL.out).nofr hW
  obtain ⟨ps, hps⟩ : ∃ ps, ps = pcs rg xs xs.length := ⟨_, rfl⟩
  obtain ⟨n, hn⟩ : ∃ n, n = ps.length := ⟨_, rfl⟩
  have hn30 : n ≤ 30 := by rw [hn, hps]; exact Nat.le_trans (pcs_len rg xs _) hl30
  have HPM : Hid (∀ p ∈ ps, p.2 ∈ xs) := fun p hp => by rw [hps] at hp; exact List.mem_of_getElem? (pcs_mem hp).2
  have HPS : Hid (∀ p ∈ ps, OSmall p.2) := fun p hp => HSM.out _ (HPM.out p hp)
  have HPI : Hid (∀ W, Fr NoBlk w W → ∀ p ∈ ps, OdIn W p.2) := fun W hW p hp => ((HX.out _ (HPM.out p hp)).1).nofr hW
  have HD1 := Lib.hid (dpieces_any w2 A c xs rg (HLG.out _ HF2.out))
  rw [← hps, ← hn] at HD1
  have HN := Lib.hid hn
  have HP := Lib.hid hps
  clear hps hn
  go_wp2_with fail
  refine HD1.out.mono ?_
  clear HD1
  rintro e w3 ⟨A3, k3, rfl, ho3, hf3⟩
  have HF3 := Lib.hid (HF2.out.trans hf3)
  have HD2 := Lib.hid (spieces_any w3 A c xs rg (HLG.out _ HF3.out) HSM.out)
  rw [← HP.out, ← HN.out] at HD2
  have HO3 := Lib.hid ho3
  clear ho3 hf3 HF2
  go_wp2_with fail
  refine HD2.out.mono ?_
  clear HD2
  rintro e w4 ⟨A4, k4, its, rfl, ho4, hits, hf4⟩
  have HF4 := Lib.hid (HF3.out.trans hf4)
  have HO34 : Hid (w4.ownsRow w2.heap.size 40 12 (.slice A3 n k3) n (itsP ps)) := own_fr HO3.out hf4 fun _ _ h => h
  have HSA : Hid (Calls Try.prog 37 #[.slice A4 n k4, .slice A3 n k3] w4 fun e w' => e = .returned (.bool true) ∧ Fr NoBlk w4 w') := by
    have hl := hits.1.trans HN.out.symm
    refine same15_any w4 A4 A3 n k4 k3 its (ps.map pim) hl (by rw [List.length_map, ← HN.out]) (by omega) (Rd.of_ownW ho4) (Rd.of_ownW HO34.out) (fun i hi => ?_) (fun i hi => ?_) (fun j x y hx hy => ?_)
    · obtain ⟨j, hj⟩ := List.getElem?_of_mem hi
      have hjl := (List.getElem?_eq_some_iff.1 hj).1
      obtain ⟨p, hp⟩ : ∃ p, ps[j]? = some p := ⟨_, List.getElem?_eq_getElem (by have := HN.out; omega)⟩
      have h := hits.2 j i p hj hp
      exact ⟨h.inn, h.like.small (HPS.out p (List.mem_of_getElem? hp))⟩
    · obtain ⟨p, hp, rfl⟩ := List.mem_map.1 hi
      exact ⟨HPI.out _ HF4.out p hp, HPS.out p hp⟩
    · rw [List.getElem?_map] at hy
      cases hp : ps[j]? with
      | none => rw [hp] at hy; cases hy
      | some p =>
        rw [hp] at hy
        injection hy with hy
        subst hy
        exact (hits.2 j x p hx hp).same
  clear ho4 hits hf4 HO3 HF3
  go_wp2_with fail
  refine HSA.out.mono ?_
  clear HSA
  rintro e w5 ⟨rfl, hf5⟩
  have HF5 := Lib.hid (HF4.out.trans hf5)
  have HO35 : Hid (w5.ownsRow w2.heap.size 40 12 (.slice A3 n k3) n (itsP ps)) := own_fr HO34.out hf5 fun _ _ h => h
  have HD3 := Lib.hid (snext_any w5 A c xs rg la (HLG.out _ HF5.out) HSM.out)
  rw [← HP.out] at HD3
  clear hf5 HO34 HF4
  go_wp2_with fail
  refine HD3.out.mono ?_
  clear HD3
  rintro e w6 hnx
  obtain ⟨it, b, rfl, hf6, hat⟩ := hnx.open HPS.out
  obtain ⟨q8, hq8⟩ : ∃ q, q = w6.heap.size := ⟨_, rfl⟩
  obtain ⟨w7, hw7⟩ : ∃ w7, w7 = w6.alloc (.cells (ima it) 40) := ⟨_, rfl⟩
  have hf67 : Fr NoBlk w6 w7 := by rw [hw7]; exact (Fr.refl _ _).alloc _
  have HF7 := Lib.hid ((HF5.out.trans hf6).trans hf67)
  have HB7 : Hid (Bk w7 q8 40 #[.int .i64 it.kind, .int .i64 it.index, .int .i64 it.o.node, .int .u64 (it.o.epoch : Int), .int .u64 (it.o.seq : Int), .int .i64 it.o.tr, .int .i64 it.o.t.kind, .slice it.o.t.ra it.o.t.reads.length it.o.t.rc, .slice it.o.t.wa it.o.t.writes.length it.o.t.wc, .slice it.o.t.oa it.o.t.ops.length it.o.t.oc, .int .i64 it.o.t.to, .slice it.o.ma it.o.marks.length it.o.mc]) := by show Bk _ _ _ _; rw [hw7, hq8]; exact Bk.new _ _ _
  have HAT := Lib.hid (hat.nofr hf67)
  have HR7 : Hid (Rd w7 A3 (imsc (ps.map pim))) := Rd.of_ownW (own_fr HO35.out (hf6.trans hf67) fun _ _ h => h)
  have HW7 := Lib.hid hw7
  have HQ8 := Lib.hid hq8
  clear hnx hf6 hat hq8 hw7 hf67 HO35 HF5
  unfold imv ima
  unfold ima at HW7
  go_wp2_with fail
  rw [← HW7.out, ← HQ8.out]
  clear HW7 HQ8
  go_loopw [34] (fun z wr => ∃ i : Nat, i ≤ n ∧ z = .int .i64 i ∧ Hid (∀ (j : Nat) (q : Pc), j < i → ps[j]? = some q → (q.1 : Int) ≤ la) ∧ Hid (Fr NoBlk w7 wr)) (fun z _ => n - (intOf z).toNat)
  case atStart => exact ⟨0, by omega, rfl, (fun j q h => absurd h (by omega)), Fr.refl _ _⟩
  case round =>
    obtain ⟨i, hi, rfl, HLE, HFW⟩ := hrel
    by_cases hlt : i < n
    · obtain ⟨p, hp⟩ : ∃ p, ps[i]? = some p := ⟨_, List.getElem?_eq_getElem (by rw [← HN.out]; exact hlt)⟩
      obtain ⟨pb, po, rfl, hc⟩ := (HR7.out.nofr HFW.out).icells (i := pim p) (by rw [List.getElem?_map, hp]; rfl)
      obtain ⟨c0, c1, c2, c3, c4, c5, c6, c7, c8, c9, c10, c11⟩ := hc
      unfold pim at c0 c1 c2 c3 c4 c5 c6 c7 c8 c9 c10 c11
      dsimp only at c0 c1 c2 c3 c4 c5 c6 c7 c8 c9 c10 c11
      have i1 : (0 : Int) ≤ (i : Int) := by omega
      have i2 : (i : Int) < (n : Int) := by omega
      obtain ⟨q, hq⟩ : ∃ q, q = wr.heap.size := ⟨_, rfl⟩
      obtain ⟨w8, hw8⟩ : ∃ w8, w8 = wr.alloc (.cells #[.int .i64 2, .int .i64 (p.1 : Int), .int .i64 p.2.node, .int .u64 (p.2.epoch : Int), .int .u64 (p.2.seq : Int), .int .i64 p.2.tr, .int .i64 p.2.t.kind, .slice p.2.t.ra p.2.t.reads.length p.2.t.rc, .slice p.2.t.wa p.2.t.writes.length p.2.t.wc, .slice p.2.t.oa p.2.t.ops.length p.2.t.oc, .int .i64 p.2.t.to, .slice p.2.ma p.2.marks.length p.2.mc] 40) := ⟨_, rfl⟩
      have hf8 : Fr NoBlk wr w8 := by rw [hw8]; exact (Fr.refl _ _).alloc _
      have HF8 := Lib.hid (HFW.out.trans hf8)
      have HBP : Hid (Bk w8 q 40 #[.int .i64 2, .int .i64 (p.1 : Int), .int .i64 p.2.node, .int .u64 (p.2.epoch : Int), .int .u64 (p.2.seq : Int), .int .i64 p.2.tr, .int .i64 p.2.t.kind, .slice p.2.t.ra p.2.t.reads.length p.2.t.rc, .slice p.2.t.wa p.2.t.writes.length p.2.t.wc, .slice p.2.t.oa p.2.t.ops.length p.2.t.oc, .int .i64 p.2.t.to, .slice p.2.ma p.2.marks.length p.2.mc]) := by show Bk _ _ _ _; rw [hw8, hq]; exact Bk.new _ _ _
      have HW8 := Lib.hid hw8
      have HQ := Lib.hid hq
      have HPP := Lib.hid hp
      clear hw8 hq hp hf8
      by_cases hge : la < (p.1 : Int)
      · obtain ⟨hb, hsm⟩ := HAT.out.yes p (find_at HPP.out HLE.out hge)
        subst hb
        have HSI : Hid (Calls Try.prog 40 #[imv it, imv (pim p)] w8 fun e w' => e = .returned (.bool true) ∧ Fr NoBlk w8 w') := by
          have h := sitem_any w8 it (pim p) (HAT.out.inn.nofr HF8.out) (HPI.out _ (HF7.out.trans HF8.out) p (List.mem_of_getElem? HPP.out)) HAT.out.small (HPS.out p (List.mem_of_getElem? HPP.out))
          rw [hsm] at h
          exact h
        have HBI : Hid (Bk w8 q8 40 #[.int .i64 it.kind, .int .i64 it.index, .int .i64 it.o.node, .int .u64 (it.o.epoch : Int), .int .u64 (it.o.seq : Int), .int .i64 it.o.tr, .int .i64 it.o.t.kind, .slice it.o.t.ra it.o.t.reads.length it.o.t.rc, .slice it.o.t.wa it.o.t.writes.length it.o.t.wc, .slice it.o.t.oa it.o.t.ops.length it.o.t.oc, .int .i64 it.o.t.to, .slice it.o.ma it.o.marks.length it.o.mc]) := HB7.out.fr HF8.out fun h => h
        have d0 : w8.cell? ⟨q, 0, none⟩ = some (.int .i64 2) := HBP.out.cell 0
        have d1 : w8.cell? ⟨q, 1, none⟩ = some (.int .i64 (p.1 : Int)) := HBP.out.cell 1
        have d2 : w8.cell? ⟨q, 2, none⟩ = some (.int .i64 p.2.node) := HBP.out.cell 2
        have d3 : w8.cell? ⟨q, 3, none⟩ = some (.int .u64 (p.2.epoch : Int)) := HBP.out.cell 3
        have d4 : w8.cell? ⟨q, 4, none⟩ = some (.int .u64 (p.2.seq : Int)) := HBP.out.cell 4
        have d5 : w8.cell? ⟨q, 5, none⟩ = some (.int .i64 p.2.tr) := HBP.out.cell 5
        have d6 : w8.cell? ⟨q, 6, none⟩ = some (.int .i64 p.2.t.kind) := HBP.out.cell 6
        have d7 : w8.cell? ⟨q, 7, none⟩ = some (.slice p.2.t.ra p.2.t.reads.length p.2.t.rc) := HBP.out.cell 7
        have d8 : w8.cell? ⟨q, 8, none⟩ = some (.slice p.2.t.wa p.2.t.writes.length p.2.t.wc) := HBP.out.cell 8
        have d9 : w8.cell? ⟨q, 9, none⟩ = some (.slice p.2.t.oa p.2.t.ops.length p.2.t.oc) := HBP.out.cell 9
        have d10 : w8.cell? ⟨q, 10, none⟩ = some (.int .i64 p.2.t.to) := HBP.out.cell 10
        have d11 : w8.cell? ⟨q, 11, none⟩ = some (.slice p.2.ma p.2.marks.length p.2.mc) := HBP.out.cell 11
        have e0 : w8.cell? ⟨q8, 0, none⟩ = some (.int .i64 it.kind) := HBI.out.cell 0
        have e1 : w8.cell? ⟨q8, 1, none⟩ = some (.int .i64 it.index) := HBI.out.cell 1
        have e2 : w8.cell? ⟨q8, 2, none⟩ = some (.int .i64 it.o.node) := HBI.out.cell 2
        have e3 : w8.cell? ⟨q8, 3, none⟩ = some (.int .u64 (it.o.epoch : Int)) := HBI.out.cell 3
        have e4 : w8.cell? ⟨q8, 4, none⟩ = some (.int .u64 (it.o.seq : Int)) := HBI.out.cell 4
        have e5 : w8.cell? ⟨q8, 5, none⟩ = some (.int .i64 it.o.tr) := HBI.out.cell 5
        have e6 : w8.cell? ⟨q8, 6, none⟩ = some (.int .i64 it.o.t.kind) := HBI.out.cell 6
        have e7 : w8.cell? ⟨q8, 7, none⟩ = some (.slice it.o.t.ra it.o.t.reads.length it.o.t.rc) := HBI.out.cell 7
        have e8 : w8.cell? ⟨q8, 8, none⟩ = some (.slice it.o.t.wa it.o.t.writes.length it.o.t.wc) := HBI.out.cell 8
        have e9 : w8.cell? ⟨q8, 9, none⟩ = some (.slice it.o.t.oa it.o.t.ops.length it.o.t.oc) := HBI.out.cell 9
        have e10 : w8.cell? ⟨q8, 10, none⟩ = some (.int .i64 it.o.t.to) := HBI.out.cell 10
        have e11 : w8.cell? ⟨q8, 11, none⟩ = some (.slice it.o.ma it.o.marks.length it.o.mc) := HBI.out.cell 11
        unfold pim imv ima at HSI
        dsimp only at HSI
        clear hsm hlt HBP HBI
        have hw8 := HW8.out
        have hq := HQ.out
        clear HW8 HQ
        subst hw8 hq
        go_wp2_with fail
        refine HSI.out.mono ?_
        clear HSI
        rintro e w9 ⟨rfl, hf9⟩
        have HF9 := Lib.hid ((HF7.out.trans HF8.out).trans hf9)
        clear hf9
        go_wp2_with fail
        go_ret
        exact ⟨rfl, HF9.out⟩
      · have hge' : (p.1 : Int) ≤ la := by omega
        have HLN : Hid (∀ (j : Nat) (q : Pc), j < i + 1 → ps[j]? = some q → (q.1 : Int) ≤ la) := fun j r hj hr => by
          by_cases e : j = i
          · subst e
            rw [HPP.out] at hr
            injection hr with hr
            rw [← hr]
            exact hge'
          · exact HLE.out j r (by omega) hr
        have d0 : w8.cell? ⟨q, 0, none⟩ = some (.int .i64 2) := HBP.out.cell 0
        have d1 : w8.cell? ⟨q, 1, none⟩ = some (.int .i64 (p.1 : Int)) := HBP.out.cell 1
        have d2 : w8.cell? ⟨q, 2, none⟩ = some (.int .i64 p.2.node) := HBP.out.cell 2
        have d3 : w8.cell? ⟨q, 3, none⟩ = some (.int .u64 (p.2.epoch : Int)) := HBP.out.cell 3
        have d4 : w8.cell? ⟨q, 4, none⟩ = some (.int .u64 (p.2.seq : Int)) := HBP.out.cell 4
        have d5 : w8.cell? ⟨q, 5, none⟩ = some (.int .i64 p.2.tr) := HBP.out.cell 5
        have d6 : w8.cell? ⟨q, 6, none⟩ = some (.int .i64 p.2.t.kind) := HBP.out.cell 6
        have d7 : w8.cell? ⟨q, 7, none⟩ = some (.slice p.2.t.ra p.2.t.reads.length p.2.t.rc) := HBP.out.cell 7
        have d8 : w8.cell? ⟨q, 8, none⟩ = some (.slice p.2.t.wa p.2.t.writes.length p.2.t.wc) := HBP.out.cell 8
        have d9 : w8.cell? ⟨q, 9, none⟩ = some (.slice p.2.t.oa p.2.t.ops.length p.2.t.oc) := HBP.out.cell 9
        have d10 : w8.cell? ⟨q, 10, none⟩ = some (.int .i64 p.2.t.to) := HBP.out.cell 10
        have d11 : w8.cell? ⟨q, 11, none⟩ = some (.slice p.2.ma p.2.marks.length p.2.mc) := HBP.out.cell 11
        clear hge hlt HBP
        have hw8 := HW8.out
        have hq := HQ.out
        clear HW8 HQ
        subst hw8 hq
        go_wp2_with fail
        go_roundw
        case rel => exact ⟨i + 1, by omega, by go_num, HLN, HF8⟩
        case measure => simp [intOf]; omega
    have i3 : (n : Int) ≤ (i : Int) := by omega
    obtain ⟨hb, hit⟩ := HAT.out.no (find_no fun j r hr => HLE.out j r (by have := (List.getElem?_eq_some_iff.1 hr).1; have := HN.out; omega) hr)
    subst hb hit
    have HSI : Hid (Calls Try.prog 40 #[imv imz, imv imz] wr fun e w' => e = .returned (.bool true) ∧ Fr NoBlk wr w') := by
      have h := sitem_any wr imz imz (imz_in _) (imz_in _) imz_small imz_small
      rw [imz_same] at h
      exact h
    have HBI : Hid (Bk wr q8 40 #[.int .i64 0, .int .i64 0, .int .i64 0, .int .u64 0, .int .u64 0, .int .i64 0, .int .i64 0, .slice none 0 0, .slice none 0 0, .slice none 0 0, .int .i64 0, .slice none 0 0]) := HB7.out.fr HFW.out fun h => h
    have e0 : wr.cell? ⟨q8, 0, none⟩ = some (.int .i64 0) := HBI.out.cell 0
    have e1 : wr.cell? ⟨q8, 1, none⟩ = some (.int .i64 0) := HBI.out.cell 1
    have e2 : wr.cell? ⟨q8, 2, none⟩ = some (.int .i64 0) := HBI.out.cell 2
    have e3 : wr.cell? ⟨q8, 3, none⟩ = some (.int .u64 0) := HBI.out.cell 3
    have e4 : wr.cell? ⟨q8, 4, none⟩ = some (.int .u64 0) := HBI.out.cell 4
    have e5 : wr.cell? ⟨q8, 5, none⟩ = some (.int .i64 0) := HBI.out.cell 5
    have e6 : wr.cell? ⟨q8, 6, none⟩ = some (.int .i64 0) := HBI.out.cell 6
    have e7 : wr.cell? ⟨q8, 7, none⟩ = some (.slice none 0 0) := HBI.out.cell 7
    have e8 : wr.cell? ⟨q8, 8, none⟩ = some (.slice none 0 0) := HBI.out.cell 8
    have e9 : wr.cell? ⟨q8, 9, none⟩ = some (.slice none 0 0) := HBI.out.cell 9
    have e10 : wr.cell? ⟨q8, 10, none⟩ = some (.int .i64 0) := HBI.out.cell 10
    have e11 : wr.cell? ⟨q8, 11, none⟩ = some (.slice none 0 0) := HBI.out.cell 11
    rw [imz_v] at HSI
    unfold izero at HSI
    clear hlt HBI
    go_wp2_with fail
    refine HSI.out.mono ?_
    clear HSI
    rintro e w9 ⟨rfl, hf9⟩
    have HF9 := Lib.hid ((HF7.out.trans HFW.out).trans hf9)
    clear hf9
    go_wp2_with fail
    go_ret
    exact ⟨rfl, HF9.out⟩

theorem paramsOk : ∀ t ∈ Try.f9.params.toList, Try.prog.readableRec t = true ∧ t < Try.prog.types.size := fun t ht => by
  have h := List.all_eq_true.1 (show (Try.f9.params.toList.all fun t => Try.prog.readableRec t && decide (t < Try.prog.types.size)) = true by kernel_rfl) t ht
  simpa using h

set_option maxRecDepth 100000 in
theorem lifted (os : Os) (started : os.Started) (H : Type) (enc : TypeId × Value → H) :
    ReturnsInHanded {} Try.checked os 9 .any (Rows.splitPiecesSpec.pre6 enc Try.prog Try.f9 Rows.splitPiecesRow.domain false) (Rows.splitPiecesSpec.post enc Try.prog Try.f9 false true false false) := by
  refine returnsInHanded_of_change (C := Try.checked) own started (by kernel_rfl) Try.func9
    (ChangeSpec.witness6 (enc := enc) (C := Try.checked) false ⟨#[], #[.slice none 0 0, .int .i64 0, .int .i64 0], []⟩ 8 (by kernel_rfl) (by kernel_rfl) (by kernel_rfl) (by kernel_rfl)) ?_
  intro W base args ds gs before hval0 hW _ _
  have hval : ∀ (j : Nat) t v, Try.f9.params[j]? = some t → args[j]? = some v → Value.okWide Try.prog W .any base t v := hval0
  have hW' := hW
  obtain ⟨p, q, hA0, hV, rfl, _, _⟩ := hW
  have hA : DataW.TrodAll enc Try.prog W 0 (fun _ => true) true Try.f9.params.toList args.toList ds p := hA0
  rw [Try.params9] at hA hval
  obtain ⟨v0, vs0, d0, ds0, p0, q0, hargs, rfl, rfl, h0, r0⟩ := trodAll_cons hA
  obtain ⟨v1, vs1, d1, ds1, p1, q1, rfl, rfl, rfl, h1, r1⟩ := trodAll_cons r0
  obtain ⟨v2, vs2, d2, ds2, p2, q2, rfl, rfl, rfl, h2, r2⟩ := trodAll_cons r1
  obtain ⟨rfl, rfl, rfl⟩ := trodAll_nil r2
  obtain rfl : args = #[v0, v1, v2] := by cases args; simp_all
  obtain ⟨rfl, rfl⟩ := trodVars_none hV
  obtain ⟨A, c, l, rfl, hr, hx, hn, hm⟩ := open_ords (hval 0 _ v0 rfl rfl) h0
  obtain ⟨r, rfl, rfl, rfl, wr1⟩ := open_int Try.underlying3 (hval 1 _ v1 rfl rfl) h1
  obtain ⟨la, rfl, rfl, rfl, wr2⟩ := open_int Try.underlying3 (hval 2 _ v2 rfl rfl) h2
  have walk := walk W r la A c l hr hx (Nat.le_trans hn hm)
  clear hA0 hval0
  refine walk.mono fun e W' ⟨he, hf⟩ => ?_
  subst he
  exact ⟨_, rfl, law_post laidOut paramsOk rfl rfl Try.underlying4 hW' rfl rfl rfl hf⟩

theorem said : Rows.SplitPiecesSaid :=
  OpenClaim.holds_of_wide 9 Try.f9 rfl rfl rfl rfl rfl rfl rfl ⟨rfl, rfl, rfl, rfl, rfl⟩ rfl rfl rfl rfl rfl (by kernel_rfl) Try.func9 (by kernel_rfl)
    (of_decide_eq_true (by kernel_rfl)) (by unfold Func.isWrapper; first | (rw [if_pos (by decide +kernel)]; kernel_rfl) | (rw [if_neg (by decide +kernel)]; exact ⟨rfl, rfl⟩))
    (fun os started H enc _ => lifted os started H enc)
end Go.Proofs.Ytdgjjkmgdjiliaa.splitPieces
