/- The document's HomeIn and Last of layer 14. Conditions: few marks, few entries. -/
import Derived.Test.YtdgjjkmgdjiliaaGr14
namespace Go.Proofs.Ytdgjjkmgdjiliaa
open Go.RowKit Go.Maps

set_option maxRecDepth 100000 in
set_option maxHeartbeats 1000000 in
theorem dhomein_any (w : World) (o : Od) (ho : OdIn w o) (hm : o.marks.length ≤ 1000) (rg : Int) :
    Calls Try.prog 28 #[odv o, .int .i64 rg] w fun e w' => e = .returned (.bool ((homesOf o.marks).contains rg)) ∧ Fr NoBlk w w' := by
  obtain ⟨q, hq⟩ : ∃ q, q = w.heap.size := ⟨_, rfl⟩
  obtain ⟨w1, hw1⟩ : ∃ w1, w1 = w.alloc (.cells (oda o) 38) := ⟨_, rfl⟩
  have HF1 : Hid (Fr NoBlk w w1) := by show Fr _ _ _; rw [hw1]; exact (Fr.refl _ _).alloc _
  have HB1 : Hid (Bk w1 q 38 (oda o)) := by show Bk _ _ _ _; rw [hw1, hq]; exact Bk.new _ _ _
  have HH := Lib.hid (dhomes_any w1 o (ho.nofr HF1.out) hm)
  have HL := Lib.hid (homesOf_len o.marks hm)
  have HW1 := Lib.hid hw1
  have HQ := Lib.hid hq
  obtain ⟨c0, c1, c2, c3, c4, c5, c6, c7, c8, c9⟩ := HB1.out.ord
  clear ho hm hw1 hq
  unfold odv oda at HH
  unfold oda at HW1
  unfold odv oda
  generalize homesOf o.marks = hs at *
  go_enter Try.func28, Try.ntmps28
  go_wp2_with fail
  rw [← HW1.out, ← HQ.out]
  clear HW1 HQ
  go_wp2_with fail
  refine HH.out.mono ?_
  clear HH HB1 c0 c1 c2 c3 c4 c5 c6 c7 c8 c9
  rintro e w2 ⟨A2, cp2, rfl, hh⟩
  have HF2 := Lib.hid (HF1.out.trans hh.fr)
  have HRD := Lib.hid hh.rd
  clear hh HF1
  have hlb := HL.out
  go_wp2_with fail
  go_loopw [6] (fun z wr => ∃ k : Nat, k ≤ hs.length ∧ z = .int .i64 k ∧ Hid (∀ (j : Nat) (v : Int), j < k → hs[j]? = some v → v ≠ rg) ∧ w2 = wr) (fun z _ => hs.length - (intOf z).toNat)
  case atStart => exact ⟨0, by omega, rfl, (fun j _ h1 => absurd h1 (by omega)), rfl⟩
  case round =>
    obtain ⟨k, hk, rfl, HE, rfl⟩ := hrel
    by_cases hlt : k < hs.length
    · obtain ⟨v, hv⟩ : ∃ v, hs[k]? = some v := ⟨_, List.getElem?_eq_getElem hlt⟩
      obtain ⟨b, O, hA, hc⟩ := HRD.out (by rw [ic_len]; omega)
      have c0 : w2.cell? ⟨b, O + k, none⟩ = some (.int .i64 v) := hc k _ (ic_get hs k _ hv)
      have i1 : (0 : Int) ≤ (k : Int) := by omega
      have i2 : (k : Int) < (hs.length : Int) := by omega
      have HV := Lib.hid hv
      subst hA
      clear hc hv
      by_cases he : v = rg
      · have hc : hs.contains rg = true := by
          rw [List.contains_iff_mem]
          exact he ▸ List.mem_of_getElem? HV.out
        have HC := Lib.hid hc
        have h1 : (v == rg) = true := beq_iff_eq.2 he
        clear hc he
        go_wp2_with fail
        go_ret
        exact ⟨ret_bool HC.out.symm, HF2.out⟩
      · have h1 : (v == rg) = false := beq_eq_false_iff_ne.2 he
        have HNX : Hid (∀ (j : Nat) (v : Int), j < k + 1 → hs[j]? = some v → v ≠ rg) := by
          intro j x hj hx
          by_cases e : j = k
          · subst e
            rw [HV.out] at hx
            injection hx with hx
            subst hx
            exact he
          · exact HE.out j x (by omega) hx
        clear he
        go_wp2_with fail
        go_roundw
        case rel => exact ⟨k + 1, by omega, by go_num, HNX, by trivial⟩
        case measure => simp [intOf]; omega
    · have i3 : (hs.length : Int) ≤ (k : Int) := by omega
      have HC : Hid (hs.contains rg = false) := by
        show _ = _
        rw [Bool.eq_false_iff]
        intro h
        rw [List.contains_iff_mem] at h
        obtain ⟨j, hj⟩ := List.getElem?_of_mem h
        exact HE.out j rg (by have := (List.getElem?_eq_some_iff.1 hj).1; omega) hj rfl
      go_wp2_with fail
      go_ret
      exact ⟨ret_bool HC.out.symm, HF2.out⟩

/-- Last and the tags behind the first n entries. -/
def laN (rg : Int) (xs : List Im) (n : Nat) : Int := (xs.take n).foldl (fun la i => lastB rg la i) (-1)
def mN (rg : Int) (xs : List Im) (n : Nat) : Tg → Bool := (xs.take n).foldl (fun m i => tagsB rg m i) (fun _ => false)
theorem laN_next {rg : Int} {xs : List Im} {n : Nat} {i : Im} (h : xs[n]? = some i) : laN rg xs (n + 1) = lastB rg (laN rg xs n) i := by
  unfold laN
  rw [List.take_add_one, h]
  simp
theorem mN_next {rg : Int} {xs : List Im} {n : Nat} {i : Im} (h : xs[n]? = some i) : mN rg xs (n + 1) = tagsB rg (mN rg xs n) i := by
  unfold mN
  rw [List.take_add_one, h]
  simp
theorem lastB_single {rg la : Int} {i : Im} (h : singleOf i.o = true) : lastB rg la i = la := by
  unfold lastB pieceB
  rw [h]
  simp
theorem lastB_kind {rg la : Int} {i : Im} (h : i.kind ≠ 2) : lastB rg la i = la := by
  unfold lastB pieceB
  simp [h]
theorem lastB_home {rg la : Int} {i : Im} (h : homeB rg i = false) : lastB rg la i = la := by
  unfold lastB
  rw [h]
  rfl
theorem lastB_yes {rg la : Int} {i : Im} (h1 : i.kind = 2) (h2 : singleOf i.o = false) (h3 : homeB rg i = true) : lastB rg la i = if la < i.index then i.index else la := by
  unfold lastB pieceB runB
  rw [h1, h2, h3]
  by_cases h : la < i.index <;> simp [h]

set_option maxRecDepth 100000 in
set_option maxHeartbeats 2000000 in
theorem dlast_any (w : World) (rg : Int) (A : Option Addr) (c : Nat) (xs : List Im) (hr : Rd w A (imsc xs)) (n : Nat) (hn : n ≤ xs.length) (hn2 : xs.length ≤ 40) (hO : ∀ i ∈ xs, OdIn w i.o ∧ i.o.marks.length ≤ 1000) :
    Calls Try.prog 18 #[.int .i64 rg, .slice A n c] w fun e w' => e = .returned (.int .i64 (laN rg xs n)) ∧ Fr NoBlk w w' := by
  have HR := Lib.hid hr
  have HO := Lib.hid hO
  clear hr hO
  go_enter Try.func18, Try.ntmps18
  go_wp2_with fail
  go_loopw [5, 6] (fun lz z wr => ∃ (k : Nat) (lv : Int), k ≤ n ∧ z = .int .i64 k ∧ lz = .int .i64 lv ∧ Hid (lv = laN rg xs k) ∧ Hid (Fr NoBlk w wr)) (fun _ z _ => n - (intOf z).toNat)
  case atStart => exact ⟨0, -1, by omega, rfl, rfl, rfl, Fr.refl _ _⟩
  case round =>
    obtain ⟨k, lv, hk, rfl, rfl, HLV, HFR⟩ := hrel
    by_cases hlt : k < n
    · obtain ⟨i, hi⟩ : ∃ i, xs[k]? = some i := ⟨_, List.getElem?_eq_getElem (by omega)⟩
      obtain ⟨ho1, ho2⟩ := HO.out i (List.mem_of_getElem? hi)
      obtain ⟨Bx, O, hA, hc⟩ := (HR.out.nofr HFR.out).item hi
      have c0 : wr.cell? ⟨Bx, O + k * 12, none⟩ = some (.int .i64 i.kind) := hc 0 _ rfl
      have c1 : wr.cell? ⟨Bx, O + k * 12 + 1, none⟩ = some (.int .i64 i.index) := hc 1 _ rfl
      have c2 : wr.cell? ⟨Bx, O + k * 12 + 2, none⟩ = some (.int .i64 i.o.node) := hc 2 _ rfl
      have c3 : wr.cell? ⟨Bx, O + k * 12 + 3, none⟩ = some (.int .u64 (i.o.epoch : Int)) := hc 3 _ rfl
      have c4 : wr.cell? ⟨Bx, O + k * 12 + 4, none⟩ = some (.int .u64 (i.o.seq : Int)) := hc 4 _ rfl
      have c5 : wr.cell? ⟨Bx, O + k * 12 + 5, none⟩ = some (.int .i64 i.o.tr) := hc 5 _ rfl
      have c6 : wr.cell? ⟨Bx, O + k * 12 + 6, none⟩ = some (.int .i64 i.o.t.kind) := hc 6 _ rfl
      have c7 : wr.cell? ⟨Bx, O + k * 12 + 7, none⟩ = some (.slice i.o.t.ra i.o.t.reads.length i.o.t.rc) := hc 7 _ rfl
      have c8 : wr.cell? ⟨Bx, O + k * 12 + 8, none⟩ = some (.slice i.o.t.wa i.o.t.writes.length i.o.t.wc) := hc 8 _ rfl
      have c9 : wr.cell? ⟨Bx, O + k * 12 + 9, none⟩ = some (.slice i.o.t.oa i.o.t.ops.length i.o.t.oc) := hc 9 _ rfl
      have c10 : wr.cell? ⟨Bx, O + k * 12 + 10, none⟩ = some (.int .i64 i.o.t.to) := hc 10 _ rfl
      have c11 : wr.cell? ⟨Bx, O + k * 12 + 11, none⟩ = some (.slice i.o.ma i.o.marks.length i.o.mc) := hc 11 _ rfl
      have i1 : (0 : Int) ≤ (k : Int) := by omega
      have i2 : (k : Int) < (n : Int) := by omega
      obtain ⟨q, hq⟩ : ∃ q, q = wr.heap.size := ⟨_, rfl⟩
      obtain ⟨wa, hwa⟩ : ∃ wa, wa = wr.alloc (.cells (ima i) 40) := ⟨_, rfl⟩
      have HFa : Hid (Fr NoBlk wr wa) := by show Fr _ _ _; rw [hwa]; exact (Fr.refl _ _).alloc _
      have hba : Bk wa q 40 (ima i) := by rw [hwa, hq]; exact Bk.new _ _ _
      have hoi := (ho1.nofr HFR.out).nofr HFa.out
      have HSD : Hid (∀ W, Fr NoBlk wa W → Bk W q 40 #[.int .i64 i.kind, .int .i64 i.index, .int .i64 i.o.node, .int .u64 (i.o.epoch : Int), .int .u64 (i.o.seq : Int), .int .i64 i.o.tr, .int .i64 i.o.t.kind, .slice i.o.t.ra i.o.t.reads.length i.o.t.rc, .slice i.o.t.wa i.o.t.writes.length i.o.t.wc, .slice i.o.t.oa i.o.t.ops.length i.o.t.oc, .int .i64 i.o.t.to, .slice i.o.ma i.o.marks.length i.o.mc]) := fun W hW => hba.fr hW fun e => e
      have HSG := Lib.hid (dsingle_any wa i.o hoi ho2)
      have HHM : Hid (∀ W, Fr NoBlk wa W → Calls Try.prog 28 #[odv i.o, .int .i64 rg] W fun e w' => e = .returned (.bool (homeB rg i)) ∧ Fr NoBlk W w') := fun W hW => dhomein_any W i.o (hoi.nofr hW) ho2 rg
      obtain ⟨sg, hsg⟩ : ∃ sg, sg = singleOf i.o := ⟨_, rfl⟩
      obtain ⟨hb, hhb⟩ : ∃ hb, hb = homeB rg i := ⟨_, rfl⟩
      rw [← hsg] at HSG
      rw [← hhb] at HHM
      have HSX := Lib.hid hsg
      have HHX := Lib.hid hhb
      have HWA := Lib.hid hwa
      have HQ := Lib.hid hq
      have HNE := Lib.hid (laN_next (rg := rg) hi)
      have d0 : wa.cell? ⟨q, 0, none⟩ = some (.int .i64 i.kind) := hba.cell 0
      have d1 : wa.cell? ⟨q, 1, none⟩ = some (.int .i64 i.index) := hba.cell 1
      have d2 : wa.cell? ⟨q, 2, none⟩ = some (.int .i64 i.o.node) := hba.cell 2
      have d3 : wa.cell? ⟨q, 3, none⟩ = some (.int .u64 (i.o.epoch : Int)) := hba.cell 3
      have d4 : wa.cell? ⟨q, 4, none⟩ = some (.int .u64 (i.o.seq : Int)) := hba.cell 4
      have d5 : wa.cell? ⟨q, 5, none⟩ = some (.int .i64 i.o.tr) := hba.cell 5
      have d6 : wa.cell? ⟨q, 6, none⟩ = some (.int .i64 i.o.t.kind) := hba.cell 6
      have d7 : wa.cell? ⟨q, 7, none⟩ = some (.slice i.o.t.ra i.o.t.reads.length i.o.t.rc) := hba.cell 7
      have d8 : wa.cell? ⟨q, 8, none⟩ = some (.slice i.o.t.wa i.o.t.writes.length i.o.t.wc) := hba.cell 8
      have d9 : wa.cell? ⟨q, 9, none⟩ = some (.slice i.o.t.oa i.o.t.ops.length i.o.t.oc) := hba.cell 9
      have d10 : wa.cell? ⟨q, 10, none⟩ = some (.int .i64 i.o.t.to) := hba.cell 10
      have d11 : wa.cell? ⟨q, 11, none⟩ = some (.slice i.o.ma i.o.marks.length i.o.mc) := hba.cell 11
      subst hA
      clear hc hi ho1 ho2 hwa hq hba hsg hhb hoi
      unfold ima at HWA
      unfold odv oda at HSG HHM
      by_cases hk2 : i.kind = 2
      rotate_left
      · have hk1 : ((i.kind : Int) == 2) = false := beq_eq_false_iff_ne.2 hk2
        have HNX : Hid (lv = laN rg xs (k + 1)) := by show _ = _; rw [HNE.out, lastB_kind hk2]; exact HLV.out
        clear hk2
        go_wp2_with fail
        rw [← HWA.out]
        go_roundw
        case rel => exact ⟨k + 1, lv, by omega, by go_num, rfl, HNX, HFR.out.trans HFa.out⟩
        case measure => simp [intOf]; omega
      have hk1 : ((i.kind : Int) == 2) = true := beq_iff_eq.2 hk2
      have HK2 := Lib.hid hk2
      clear hk2
      go_wp2_with fail
      rw [← HWA.out, ← HQ.out]
      clear HWA c0 c1 c2 c3 c4 c5 c6 c7 c8 c9 c10 c11
      refine HSG.out.mono ?_
      clear HSG d0 d1 d2 d3 d4 d5 d6 d7 d8 d9 d10 d11
      rintro e w2 ⟨rfl, hf2⟩
      have HF2 := Lib.hid hf2
      have HHI := Lib.hid (HHM.out _ hf2)
      clear hf2 HHM
      cases sg with
      | true =>
        have HNX : Hid (lv = laN rg xs (k + 1)) := by show _ = _; rw [HNE.out, lastB_single HSX.out.symm]; exact HLV.out
        go_wp2_with fail
        go_roundw
        case rel => exact ⟨k + 1, lv, by omega, by go_num, rfl, HNX, (HFR.out.trans HFa.out).trans HF2.out⟩
        case measure => simp [intOf]; omega
      | false =>
        have d0 : w2.cell? ⟨q, 0, none⟩ = some (.int .i64 i.kind) := (HSD.out _ HF2.out).cell 0
        have d1 : w2.cell? ⟨q, 1, none⟩ = some (.int .i64 i.index) := (HSD.out _ HF2.out).cell 1
        have d2 : w2.cell? ⟨q, 2, none⟩ = some (.int .i64 i.o.node) := (HSD.out _ HF2.out).cell 2
        have d3 : w2.cell? ⟨q, 3, none⟩ = some (.int .u64 (i.o.epoch : Int)) := (HSD.out _ HF2.out).cell 3
        have d4 : w2.cell? ⟨q, 4, none⟩ = some (.int .u64 (i.o.seq : Int)) := (HSD.out _ HF2.out).cell 4
        have d5 : w2.cell? ⟨q, 5, none⟩ = some (.int .i64 i.o.tr) := (HSD.out _ HF2.out).cell 5
        have d6 : w2.cell? ⟨q, 6, none⟩ = some (.int .i64 i.o.t.kind) := (HSD.out _ HF2.out).cell 6
        have d7 : w2.cell? ⟨q, 7, none⟩ = some (.slice i.o.t.ra i.o.t.reads.length i.o.t.rc) := (HSD.out _ HF2.out).cell 7
        have d8 : w2.cell? ⟨q, 8, none⟩ = some (.slice i.o.t.wa i.o.t.writes.length i.o.t.wc) := (HSD.out _ HF2.out).cell 8
        have d9 : w2.cell? ⟨q, 9, none⟩ = some (.slice i.o.t.oa i.o.t.ops.length i.o.t.oc) := (HSD.out _ HF2.out).cell 9
        have d10 : w2.cell? ⟨q, 10, none⟩ = some (.int .i64 i.o.t.to) := (HSD.out _ HF2.out).cell 10
        have d11 : w2.cell? ⟨q, 11, none⟩ = some (.slice i.o.ma i.o.marks.length i.o.mc) := (HSD.out _ HF2.out).cell 11
        go_wp2_with fail
        refine HHI.out.mono ?_
        clear HHI d0 d1 d2 d3 d4 d5 d6 d7 d8 d9 d10 d11
        rintro e w3 ⟨rfl, hf3⟩
        have HF3 := Lib.hid (HF2.out.trans hf3)
        clear hf3
        cases hb with
        | false =>
          have HNX : Hid (lv = laN rg xs (k + 1)) := by show _ = _; rw [HNE.out, lastB_home HHX.out.symm]; exact HLV.out
          go_wp2_with fail
          go_roundw
          case rel => exact ⟨k + 1, lv, by omega, by go_num, rfl, HNX, (HFR.out.trans HFa.out).trans HF3.out⟩
          case measure => simp [intOf]; omega
        | true =>
          have d1 : w3.cell? ⟨q, 1, none⟩ = some (.int .i64 i.index) := (HSD.out _ HF3.out).cell 1
          by_cases hix : lv < i.index
          · have HNX : Hid (i.index = laN rg xs (k + 1)) := by show _ = _; rw [HNE.out, lastB_yes HK2.out HSX.out.symm HHX.out.symm, if_pos (by rw [← HLV.out]; exact hix)]
            go_wp2_with fail
            go_roundw
            case rel => exact ⟨k + 1, i.index, by omega, by go_num, rfl, HNX, (HFR.out.trans HFa.out).trans HF3.out⟩
            case measure => simp [intOf]; omega
          · have HNX : Hid (lv = laN rg xs (k + 1)) := by show _ = _; rw [HNE.out, lastB_yes HK2.out HSX.out.symm HHX.out.symm, if_neg (by rw [← HLV.out]; exact hix)]; exact HLV.out
            have hix2 : i.index ≤ lv := by omega
            clear hix
            go_wp2_with fail
            go_roundw
            case rel => exact ⟨k + 1, lv, by omega, by go_num, rfl, HNX, (HFR.out.trans HFa.out).trans HF3.out⟩
            case measure => simp [intOf]; omega
    · have i3 : (n : Int) ≤ (k : Int) := by omega
      have hkn : k = n := by omega
      have HE : Hid (lv = laN rg xs n) := by show _ = _; rw [← hkn]; exact HLV.out
      clear hkn
      go_wp2_with fail
      go_ret
      exact ⟨by rw [← HE.out]; rfl, HFR.out⟩
end Go.Proofs.Ytdgjjkmgdjiliaa
