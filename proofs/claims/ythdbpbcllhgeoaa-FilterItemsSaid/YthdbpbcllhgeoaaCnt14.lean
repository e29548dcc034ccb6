/- The document's Counts of layer 14. Conditions: few marks, few entries. -/
import Derived.Test.YthdbpbcllhgeoaaLst14
import Derived.Test.YthdbpbcllhgeoaaFst
namespace Go.Proofs.Ythdbpbcllhgeoaa
open Go.RowKit Go.Maps

def countN (rg : Int) (xs : List Im) (n : Nat) (i : Im) : Bool := countB rg (laN rg xs n) (mN rg xs n) i
theorem mN_or {rg : Int} {xs : List Im} {n : Nat} {i : Im} (h : xs[n]? = some i) (t : Tg) : mN rg xs (n + 1) t = (mN rg xs n t || (decide (i.kind = 1) && (decide (tgOf i.o = t) && countN rg xs n i))) := by
  rw [mN_next h]
  unfold countN countB tagsB runB
  generalize mN rg xs n = m
  generalize laN rg xs n = la
  cases homeB rg i
  · simp
  by_cases hk : i.kind = 1
  · by_cases ht : tgOf i.o = t
    · subst ht
      cases singleOf i.o
      · simp [hk, pieceB]
      · cases hm : m (tgOf i.o) <;> simp [hk, addT, hm]
    · have ht' : ¬ t = tgOf i.o := fun e => ht e.symm
      cases singleOf i.o <;> simp [hk, ht, ht', addT]
  · simp [hk]
theorem mN_up {rg : Int} {xs : List Im} {t : Tg} {k : Nat} (h : mN rg xs k t = true) : ∀ d, k + d ≤ xs.length → mN rg xs (k + d) t = true
  | 0, _ => h
  | d + 1, hd => by
    rw [show k + (d + 1) = k + d + 1 from rfl, mN_or (i := xs[k + d]'(by omega)) (List.getElem?_eq_getElem (by omega)), mN_up h d (by omega)]
    rfl
theorem count_home {rg : Int} {xs : List Im} {n : Nat} {i : Im} (h : homeB rg i = false) : countN rg xs n i = false := by
  unfold countN countB
  rw [h]
  rfl
theorem count_run {rg : Int} {xs : List Im} {n : Nat} {i : Im} (h : homeB rg i = true) (hk : i.kind = 1) : countN rg xs n i = (singleOf i.o && !mN rg xs n (tgOf i.o)) := by
  unfold countN countB runB pieceB
  rw [h]
  cases singleOf i.o <;> simp [hk]
theorem count_piece {rg : Int} {xs : List Im} {n : Nat} {i : Im} (h : homeB rg i = true) (hk : i.kind ≠ 1) : countN rg xs n i = pieceB (laN rg xs n) i := by
  unfold countN countB runB
  rw [h]
  simp [hk]

set_option maxRecDepth 100000 in
set_option maxHeartbeats 4000000 in
theorem counts_any (rg : Int) (A : Option Addr) (c : Nat) (xs : List Im) (hn2 : xs.length ≤ 40) (hlc : xs.length ≤ c) (_hcm : c ≤ maxLen) (n : Nat) : ∀ (w : World) (i : Im), xs[n]? = some i → Rd w A (imsc xs) → (∀ i ∈ xs, OdIn w i.o ∧ i.o.marks.length ≤ 1000) →
    Calls Try.prog 15 #[.int .i64 rg, .slice A xs.length c, .int .i64 n] w fun e w' => e = .returned (.bool (countN rg xs n i)) ∧ Fr NoBlk w w' := by
  induction n using Nat.strongRecOn with
  | _ n ih =>
  intro w i hi hr hO
  have hn := (List.getElem?_eq_some_iff.1 hi).1
  obtain ⟨ho1, ho2⟩ := hO i (List.mem_of_getElem? hi)
  have HR := Lib.hid hr
  have HO := Lib.hid hO
  have HII := Lib.hid hi
  have IH := Lib.hid ih
  obtain ⟨Bx, O, hA, hc⟩ := hr.item hi
  have c0 : w.cell? ⟨Bx, O + n * 12, none⟩ = some (.int .i64 i.kind) := hc 0 _ rfl
  have c1 : w.cell? ⟨Bx, O + n * 12 + 1, none⟩ = some (.int .i64 i.index) := hc 1 _ rfl
  have c2 : w.cell? ⟨Bx, O + n * 12 + 2, none⟩ = some (.int .i64 i.o.node) := hc 2 _ rfl
  have c3 : w.cell? ⟨Bx, O + n * 12 + 3, none⟩ = some (.int .u64 (i.o.epoch : Int)) := hc 3 _ rfl
  have c4 : w.cell? ⟨Bx, O + n * 12 + 4, none⟩ = some (.int .u64 (i.o.seq : Int)) := hc 4 _ rfl
  have c5 : w.cell? ⟨Bx, O + n * 12 + 5, none⟩ = some (.int .i64 i.o.tr) := hc 5 _ rfl
  have c6 : w.cell? ⟨Bx, O + n * 12 + 6, none⟩ = some (.int .i64 i.o.t.kind) := hc 6 _ rfl
  have c7 : w.cell? ⟨Bx, O + n * 12 + 7, none⟩ = some (.slice i.o.t.ra i.o.t.reads.length i.o.t.rc) := hc 7 _ rfl
  have c8 : w.cell? ⟨Bx, O + n * 12 + 8, none⟩ = some (.slice i.o.t.wa i.o.t.writes.length i.o.t.wc) := hc 8 _ rfl
  have c9 : w.cell? ⟨Bx, O + n * 12 + 9, none⟩ = some (.slice i.o.t.oa i.o.t.ops.length i.o.t.oc) := hc 9 _ rfl
  have c10 : w.cell? ⟨Bx, O + n * 12 + 10, none⟩ = some (.int .i64 i.o.t.to) := hc 10 _ rfl
  have c11 : w.cell? ⟨Bx, O + n * 12 + 11, none⟩ = some (.slice i.o.ma i.o.marks.length i.o.mc) := hc 11 _ rfl
  have i1 : (0 : Int) ≤ (n : Int) := by omega
  have i2 : (n : Int) < (xs.length : Int) := by omega
  have i5 : (n : Int) ≤ (c : Int) := by omega
  obtain ⟨q, hq⟩ : ∃ q, q = w.heap.size := ⟨_, rfl⟩
  obtain ⟨wa, hwa⟩ : ∃ wa, wa = w.alloc (.cells (ima i) 40) := ⟨_, rfl⟩
  have HFa : Hid (Fr NoBlk w wa) := by show Fr _ _ _; rw [hwa]; exact (Fr.refl _ _).alloc _
  have hba : Bk wa q 40 (ima i) := by rw [hwa, hq]; exact Bk.new _ _ _
  have hoi := ho1.nofr HFa.out
  have HOI : Hid (∀ W, Fr NoBlk wa W → OdIn W i.o) := fun W hW => hoi.nofr hW
  have HSD : Hid (∀ W, Fr NoBlk wa W → Bk W q 40 #[.int .i64 i.kind, .int .i64 i.index, .int .i64 i.o.node, .int .u64 (i.o.epoch : Int), .int .u64 (i.o.seq : Int), .int .i64 i.o.tr, .int .i64 i.o.t.kind, .slice i.o.t.ra i.o.t.reads.length i.o.t.rc, .slice i.o.t.wa i.o.t.writes.length i.o.t.wc, .slice i.o.t.oa i.o.t.ops.length i.o.t.oc, .int .i64 i.o.t.to, .slice i.o.ma i.o.marks.length i.o.mc]) := fun W hW => hba.fr hW fun e => e
  have HHM := Lib.hid (dhomein_any wa i.o hoi ho2 rg)
  obtain ⟨hb, hhb⟩ : ∃ hb, hb = homeB rg i := ⟨_, rfl⟩
  have hhb' : (homesOf i.o.marks).contains rg = hb := hhb.symm
  rw [hhb'] at HHM
  have HHX := Lib.hid hhb
  have HMK := Lib.hid ho2
  have HWA := Lib.hid hwa
  have HQ := Lib.hid hq
  have d0 : wa.cell? ⟨q, 0, none⟩ = some (.int .i64 i.kind) := hba.cell 0
  have d1 : wa.cell? ⟨q, 1, none⟩ = some (.int .i64 i.index) := hba.cell 1
  have d2 : wa.cell? ⟨q, 2, none⟩ = some (.int .i64 i.o.node) := hba.cell 2
  have d3 : wa.cell? ⟨q, 3, none⟩ = some (.int .u64 (i.o.epoch : Int)) := hba.cell 3
  have d4 : wa.cell? ⟨q, 4, none⟩ = some (.int .u64 (i.o.seq : Int)) := hba.cell 4
  have d5 : wa.cell? ⟨q, 5, none⟩ = some (.int .i64 i.o.tr) := hba.cell 5
  have d6 : wa.cell? ⟨q, 6, none⟩ = some (.int .i64 i.o.t.kind) := hba.cell 6
  have d7 : wa.cell? ⟨q, 7, none⟩ = some (.slice i.o.t.ra i.o.t.reads.length i.o.t.rc) := hba.cell 7
  have d8 : wa.cell? ⟨q, 8, none⟩ = some (.slice i.o.t.wa i.o.t.writes.length i.o.t.wc) := hba.cell 8
  have d9 : wa.cell? ⟨q, 9, none⟩ = some (.slice i.o.t.oa i.o.t.ops.length i.o.t.oc) := hba.cell 9
  have d10 : wa.cell? ⟨q, 10, none⟩ = some (.int .i64 i.o.t.to) := hba.cell 10
  have d11 : wa.cell? ⟨q, 11, none⟩ = some (.slice i.o.ma i.o.marks.length i.o.mc) := hba.cell 11
  subst hA
  clear hc hi hr hO ih ho1 ho2 hwa hq hba hhb hhb' hoi
  unfold ima at HWA
  unfold odv oda at HHM
  go_enter Try.func15, Try.ntmps15
  go_wp2_with fail
  rw [← HWA.out, ← HQ.out]
  clear HWA HQ c0 c1 c2 c3 c4 c5 c6 c7 c8 c9 c10 c11
  go_wp2_with fail
  refine HHM.out.mono ?_
  clear HHM d0 d1 d2 d3 d4 d5 d6 d7 d8 d9 d10 d11
  rintro e w2 ⟨rfl, hf2⟩
  have HF2 := Lib.hid hf2
  clear hf2
  cases hb with
  | false =>
    go_wp2_with fail
    go_ret
    exact ⟨ret_bool (by rw [count_home HHX.out.symm]), HFa.out.trans HF2.out⟩
  | true =>
  have d0 : w2.cell? ⟨q, 0, none⟩ = some (.int .i64 i.kind) := (HSD.out _ HF2.out).cell 0
  have d1 : w2.cell? ⟨q, 1, none⟩ = some (.int .i64 i.index) := (HSD.out _ HF2.out).cell 1
  have d2 : w2.cell? ⟨q, 2, none⟩ = some (.int .i64 i.o.node) := (HSD.out _ HF2.out).cell 2
  have d3 : w2.cell? ⟨q, 3, none⟩ = some (.int .u64 (i.o.epoch : Int)) := (HSD.out _ HF2.out).cell 3
  have d4 : w2.cell? ⟨q, 4, none⟩ = some (.int .u64 (i.o.seq : Int)) := (HSD.out _ HF2.out).cell 4
  have d5 : w2.cell? ⟨q, 5, none⟩ = some (.int .i64 i.o.tr) := (HSD.out _ HF2.out).cell 5
  have d6 : w2.cell? ⟨q, 6, none⟩ = some (.int .i64 i.o.t.kind) := (HSD.out _ HF2.out).cell 6
  have d7 : w2.cell? ⟨q, 7, none⟩ = some (.slice i.o.t.ra i.o.t.reads.length i.o.t.rc) := (HSD.out _ HF2.out).cell 7
  have d8 : w2.cell? ⟨q, 8, none⟩ = some (.slice i.o.t.wa i.o.t.writes.length i.o.t.wc) := (HSD.out _ HF2.out).cell 8
  have d9 : w2.cell? ⟨q, 9, none⟩ = some (.slice i.o.t.oa i.o.t.ops.length i.o.t.oc) := (HSD.out _ HF2.out).cell 9
  have d10 : w2.cell? ⟨q, 10, none⟩ = some (.int .i64 i.o.t.to) := (HSD.out _ HF2.out).cell 10
  have d11 : w2.cell? ⟨q, 11, none⟩ = some (.slice i.o.ma i.o.marks.length i.o.mc) := (HSD.out _ HF2.out).cell 11
  obtain ⟨sg, hsg⟩ : ∃ sg, sg = singleOf i.o := ⟨_, rfl⟩
  by_cases hk : i.kind = 1
  · have hk1 : ((i.kind : Int) == 1) = true := beq_iff_eq.2 hk
    have HCN := Lib.hid (count_run (xs := xs) (n := n) HHX.out.symm hk)
    have HSG := Lib.hid (dsingle_any w2 i.o (HOI.out _ HF2.out) HMK.out)
    rw [← hsg] at HSG HCN
    clear hk hsg
    unfold odv oda at HSG
    go_wp2_with fail
    refine HSG.out.mono ?_
    clear HSG d0 d1 d2 d3 d4 d5 d6 d7 d8 d9 d10 d11
    rintro e w3 ⟨rfl, hf3⟩
    have HF3 := Lib.hid (HF2.out.trans hf3)
    clear hf3
    cases sg with
    | false =>
      go_wp2_with fail
      go_ret
      exact ⟨ret_bool (by rw [HCN.out]; rfl), HFa.out.trans HF3.out⟩
    | true =>
    go_wp2_with fail
    go_loopw [8] (fun z wr => ∃ k : Nat, k ≤ n ∧ z = .int .i64 k ∧ Hid (mN rg xs k (tgOf i.o) = false) ∧ Hid (Fr NoBlk wa wr)) (fun z _ => n - (intOf z).toNat)
    case atStart => exact ⟨0, by omega, rfl, rfl, HF3.out⟩
    case round =>
      obtain ⟨k, hk, rfl, HM, HFR⟩ := hrel
      clear HF2 HF3
      by_cases hlt : k < n
      · obtain ⟨p, hp⟩ : ∃ p, xs[k]? = some p := ⟨_, List.getElem?_eq_getElem (by omega)⟩
        have HJ := Lib.hid (HFa.out.trans HFR.out)
        obtain ⟨B2, O2, e2, hcp⟩ := (HR.out.nofr HJ.out).item hp
        injection e2 with e2
        injection e2 with e2 e2' e2''
        subst e2 e2'
        clear e2''
        have HSJ : Hid (∀ W, Fr NoBlk wr W → (∀ j v, (imc p)[j]? = some v → W.cell? ⟨Bx, O + k * 12 + j, none⟩ = some v) ∧ Bk W q 40 #[.int .i64 i.kind, .int .i64 i.index, .int .i64 i.o.node, .int .u64 (i.o.epoch : Int), .int .u64 (i.o.seq : Int), .int .i64 i.o.tr, .int .i64 i.o.t.kind, .slice i.o.t.ra i.o.t.reads.length i.o.t.rc, .slice i.o.t.wa i.o.t.writes.length i.o.t.wc, .slice i.o.t.oa i.o.t.ops.length i.o.t.oc, .int .i64 i.o.t.to, .slice i.o.ma i.o.marks.length i.o.mc]) := by
          intro W hW
          obtain ⟨B2, O2, e2, hcp⟩ := (HR.out.nofr (HJ.out.trans hW)).item hp
          injection e2 with e2
          injection e2 with e2 e2' e2''
          subst e2 e2'
          exact ⟨hcp, HSD.out _ (HFR.out.trans hW)⟩
        have i3 : (0 : Int) ≤ (k : Int) := by omega
        have i4 : (k : Int) < (xs.length : Int) := by omega
        have HNE := Lib.hid (mN_or (rg := rg) hp (tgOf i.o))
        rw [HM.out, Bool.false_or] at HNE
        have hq := eqTag (tgOf p.o) (tgOf i.o)
        have hg := (by kernel_rfl : Try.prog.eqGuardType Try.prog.depth 31 = false)
        obtain ⟨b1, hb1⟩ : ∃ b1, b1 = decide (tgOf p.o = tgOf i.o) := ⟨_, rfl⟩
        rw [← hb1] at hq HNE
        clear hb1
        unfold tgv tgOf at hq
        dsimp only at hq
        have HCJ := Lib.hid (IH.out k hlt wr.drew p hp (HR.out.nofr (HJ.out.trans (Fr.refl _ _).drew)) fun x hx => ⟨(HO.out x hx).1.nofr (HJ.out.trans (Fr.refl _ _).drew), (HO.out x hx).2⟩)
        obtain ⟨cj, hcj⟩ : ∃ cj, cj = countN rg xs k p := ⟨_, rfl⟩
        rw [← hcj] at HCJ HNE
        clear hp hcj
        by_cases hk : p.kind = 1
        rotate_left
        · have hk1 : ((p.kind : Int) == 1) = false := beq_eq_false_iff_ne.2 hk
          have HNX : Hid (mN rg xs (k + 1) (tgOf i.o) = false) := by show _ = _; rw [HNE.out, decide_eq_false hk]; rfl
          have x0 : wr.cell? ⟨Bx, O + k * 12, none⟩ = some (.int .i64 p.kind) := hcp 0 _ rfl
          clear hk hcp HCJ HSJ
          go_wp2_with fail
          go_quiet (fail)
          go_wp2
          go_roundw
          case rel => exact ⟨k + 1, by omega, by go_num, HNX, HFR.out.drewN _⟩
          case measure => simp [intOf]; omega
        have hk1 : ((p.kind : Int) == 1) = true := beq_iff_eq.2 hk
        rw [decide_eq_true hk, Bool.true_and] at HNE
        clear hk
        cases b1 with
        | false =>
          have HNX : Hid (mN rg xs (k + 1) (tgOf i.o) = false) := by show _ = _; rw [HNE.out]; rfl
          have x0 : wr.cell? ⟨Bx, O + k * 12, none⟩ = some (.int .i64 p.kind) := hcp 0 _ rfl
          have x2 : wr.cell? ⟨Bx, O + k * 12 + 2, none⟩ = some (.int .i64 p.o.node) := hcp 2 _ rfl
          have x3 : wr.cell? ⟨Bx, O + k * 12 + 3, none⟩ = some (.int .u64 (p.o.epoch : Int)) := hcp 3 _ rfl
          have x4 : wr.cell? ⟨Bx, O + k * 12 + 4, none⟩ = some (.int .u64 (p.o.seq : Int)) := hcp 4 _ rfl
          have x5 : wr.cell? ⟨Bx, O + k * 12 + 5, none⟩ = some (.int .i64 p.o.tr) := hcp 5 _ rfl
          have y3 : wr.cell? ⟨Bx, O + k * 12 + 2 + 1, none⟩ = some (.int .u64 (p.o.epoch : Int)) := hcp 3 _ rfl
          have y4 : wr.cell? ⟨Bx, O + k * 12 + 2 + 2, none⟩ = some (.int .u64 (p.o.seq : Int)) := hcp 4 _ rfl
          have y5 : wr.cell? ⟨Bx, O + k * 12 + 2 + 3, none⟩ = some (.int .i64 p.o.tr) := hcp 5 _ rfl
          have d2 : wr.cell? ⟨q, 2, none⟩ = some (.int .i64 i.o.node) := (HSD.out _ HFR.out).cell 2
          have d3 : wr.cell? ⟨q, 3, none⟩ = some (.int .u64 (i.o.epoch : Int)) := (HSD.out _ HFR.out).cell 3
          have d4 : wr.cell? ⟨q, 4, none⟩ = some (.int .u64 (i.o.seq : Int)) := (HSD.out _ HFR.out).cell 4
          have d5 : wr.cell? ⟨q, 5, none⟩ = some (.int .i64 i.o.tr) := (HSD.out _ HFR.out).cell 5
          clear hcp HCJ HSJ
          go_wp2_with fail
          go_quiet (fail)
          go_wp2
          go_roundw
          case rel => exact ⟨k + 1, by omega, by go_num, HNX, HFR.out.drewN _⟩
          case measure => simp [intOf]; omega
        | true =>
          rw [Bool.true_and] at HNE
          clear hcp
          go_wp2_with fail
          refine wp_region_held_drew (S := fun w' => (∀ j v, (imc p)[j]? = some v → w'.cell? ⟨Bx, O + k * 12 + j, none⟩ = some v) ∧ Bk w' q 40 #[.int .i64 i.kind, .int .i64 i.index, .int .i64 i.o.node, .int .u64 (i.o.epoch : Int), .int .u64 (i.o.seq : Int), .int .i64 i.o.tr, .int .i64 i.o.t.kind, .slice i.o.t.ra i.o.t.reads.length i.o.t.rc, .slice i.o.t.wa i.o.t.writes.length i.o.t.wc, .slice i.o.t.oa i.o.t.ops.length i.o.t.oc, .int .i64 i.o.t.to, .slice i.o.ma i.o.marks.length i.o.mc]) (by kernel_rfl) (HSJ.out _ (Fr.refl _ _).drew) (fun hHeld => ?_)
          cases cj with
          | false =>
            refine wpAnyH_take (i := 0) (oi := ⟨some 30, _, _, _, _, _⟩) (v := ?_) rfl (by kernel_rfl) (by kernel_rfl) (by kernel_rfl) (fun _ _ _ h => h) (Or.inl ⟨by rfl, ?_⟩) (by assumption) ?_
            rotate_left 1
            · (intro w hSw; (try dsimp only at hSw); obtain ⟨hI, hB⟩ := hSw; have k0 : w.cell? ⟨Bx, O + k * 12, none⟩ = some (.int .i64 p.kind) := hI 0 _ rfl; have k2 : w.cell? ⟨Bx, O + k * 12 + 2, none⟩ = some (.int .i64 p.o.node) := hI 2 _ rfl; have k3 : w.cell? ⟨Bx, O + k * 12 + 3, none⟩ = some (.int .u64 (p.o.epoch : Int)) := hI 3 _ rfl; have k4 : w.cell? ⟨Bx, O + k * 12 + 4, none⟩ = some (.int .u64 (p.o.seq : Int)) := hI 4 _ rfl; have k5 : w.cell? ⟨Bx, O + k * 12 + 5, none⟩ = some (.int .i64 p.o.tr) := hI 5 _ rfl; have y3 : w.cell? ⟨Bx, O + k * 12 + 2 + 1, none⟩ = some (.int .u64 (p.o.epoch : Int)) := hI 3 _ rfl; have y4 : w.cell? ⟨Bx, O + k * 12 + 2 + 2, none⟩ = some (.int .u64 (p.o.seq : Int)) := hI 4 _ rfl; have y5 : w.cell? ⟨Bx, O + k * 12 + 2 + 3, none⟩ = some (.int .i64 p.o.tr) := hI 5 _ rfl; have b2 : w.cell? ⟨q, 2, none⟩ = some (.int .i64 i.o.node) := hB.cell 2; have b3 : w.cell? ⟨q, 3, none⟩ = some (.int .u64 (i.o.epoch : Int)) := hB.cell 3; have b4 : w.cell? ⟨q, 4, none⟩ = some (.int .u64 (i.o.seq : Int)) := hB.cell 4; have b5 : w.cell? ⟨q, 5, none⟩ = some (.int .i64 i.o.tr) := hB.cell 5; clear hI hB; go_simp) <;> (with_reducible rfl)
            try simp only [Act.put, List.setIfInBounds_toArray, List.set_cons_zero, List.set_cons_succ]
            refine wpAnyH_take (i := 1) (oi := ⟨some 31, _, _, _, _, _⟩) (v := ?_) rfl (by kernel_rfl) (by kernel_rfl) (by kernel_rfl) (fun _ _ _ h => h) (Or.inl ⟨by rfl, ?_⟩) (by assumption) ?_
            rotate_left 1
            · (intro w hSw; (try dsimp only at hSw); obtain ⟨hI, hB⟩ := hSw; have k0 : w.cell? ⟨Bx, O + k * 12, none⟩ = some (.int .i64 p.kind) := hI 0 _ rfl; have k2 : w.cell? ⟨Bx, O + k * 12 + 2, none⟩ = some (.int .i64 p.o.node) := hI 2 _ rfl; have k3 : w.cell? ⟨Bx, O + k * 12 + 3, none⟩ = some (.int .u64 (p.o.epoch : Int)) := hI 3 _ rfl; have k4 : w.cell? ⟨Bx, O + k * 12 + 4, none⟩ = some (.int .u64 (p.o.seq : Int)) := hI 4 _ rfl; have k5 : w.cell? ⟨Bx, O + k * 12 + 5, none⟩ = some (.int .i64 p.o.tr) := hI 5 _ rfl; have y3 : w.cell? ⟨Bx, O + k * 12 + 2 + 1, none⟩ = some (.int .u64 (p.o.epoch : Int)) := hI 3 _ rfl; have y4 : w.cell? ⟨Bx, O + k * 12 + 2 + 2, none⟩ = some (.int .u64 (p.o.seq : Int)) := hI 4 _ rfl; have y5 : w.cell? ⟨Bx, O + k * 12 + 2 + 3, none⟩ = some (.int .i64 p.o.tr) := hI 5 _ rfl; have b2 : w.cell? ⟨q, 2, none⟩ = some (.int .i64 i.o.node) := hB.cell 2; have b3 : w.cell? ⟨q, 3, none⟩ = some (.int .u64 (i.o.epoch : Int)) := hB.cell 3; have b4 : w.cell? ⟨q, 4, none⟩ = some (.int .u64 (i.o.seq : Int)) := hB.cell 4; have b5 : w.cell? ⟨q, 5, none⟩ = some (.int .i64 i.o.tr) := hB.cell 5; clear hI hB; go_simp) <;> (with_reducible rfl)
            try simp only [Act.put, List.setIfInBounds_toArray, List.set_cons_zero, List.set_cons_succ]
            refine wpAnyH_take (i := 2) (oi := ⟨some 32, _, _, _, _, _⟩) (v := ?_) rfl (by kernel_rfl) (by kernel_rfl) (by kernel_rfl) (fun _ _ _ h => h) (Or.inl ⟨by rfl, ?_⟩) (by assumption) ?_
            rotate_left 1
            · (intro w hSw; (try dsimp only at hSw); obtain ⟨hI, hB⟩ := hSw; have k0 : w.cell? ⟨Bx, O + k * 12, none⟩ = some (.int .i64 p.kind) := hI 0 _ rfl; have k2 : w.cell? ⟨Bx, O + k * 12 + 2, none⟩ = some (.int .i64 p.o.node) := hI 2 _ rfl; have k3 : w.cell? ⟨Bx, O + k * 12 + 3, none⟩ = some (.int .u64 (p.o.epoch : Int)) := hI 3 _ rfl; have k4 : w.cell? ⟨Bx, O + k * 12 + 4, none⟩ = some (.int .u64 (p.o.seq : Int)) := hI 4 _ rfl; have k5 : w.cell? ⟨Bx, O + k * 12 + 5, none⟩ = some (.int .i64 p.o.tr) := hI 5 _ rfl; have y3 : w.cell? ⟨Bx, O + k * 12 + 2 + 1, none⟩ = some (.int .u64 (p.o.epoch : Int)) := hI 3 _ rfl; have y4 : w.cell? ⟨Bx, O + k * 12 + 2 + 2, none⟩ = some (.int .u64 (p.o.seq : Int)) := hI 4 _ rfl; have y5 : w.cell? ⟨Bx, O + k * 12 + 2 + 3, none⟩ = some (.int .i64 p.o.tr) := hI 5 _ rfl; have b2 : w.cell? ⟨q, 2, none⟩ = some (.int .i64 i.o.node) := hB.cell 2; have b3 : w.cell? ⟨q, 3, none⟩ = some (.int .u64 (i.o.epoch : Int)) := hB.cell 3; have b4 : w.cell? ⟨q, 4, none⟩ = some (.int .u64 (i.o.seq : Int)) := hB.cell 4; have b5 : w.cell? ⟨q, 5, none⟩ = some (.int .i64 i.o.tr) := hB.cell 5; clear hI hB; go_simp) <;> (with_reducible rfl)
            try simp only [Act.put, List.setIfInBounds_toArray, List.set_cons_zero, List.set_cons_succ]
            refine wpAnyH_take (i := 3) (oi := ⟨some 33, _, _, _, _, _⟩) (v := ?_) rfl (by kernel_rfl) (by kernel_rfl) (by kernel_rfl) (fun _ _ _ h => h) (Or.inl ⟨by rfl, ?_⟩) (by assumption) ?_
            rotate_left 1
            · (intro w hSw; (try dsimp only at hSw); obtain ⟨hI, hB⟩ := hSw; have k0 : w.cell? ⟨Bx, O + k * 12, none⟩ = some (.int .i64 p.kind) := hI 0 _ rfl; have k2 : w.cell? ⟨Bx, O + k * 12 + 2, none⟩ = some (.int .i64 p.o.node) := hI 2 _ rfl; have k3 : w.cell? ⟨Bx, O + k * 12 + 3, none⟩ = some (.int .u64 (p.o.epoch : Int)) := hI 3 _ rfl; have k4 : w.cell? ⟨Bx, O + k * 12 + 4, none⟩ = some (.int .u64 (p.o.seq : Int)) := hI 4 _ rfl; have k5 : w.cell? ⟨Bx, O + k * 12 + 5, none⟩ = some (.int .i64 p.o.tr) := hI 5 _ rfl; have y3 : w.cell? ⟨Bx, O + k * 12 + 2 + 1, none⟩ = some (.int .u64 (p.o.epoch : Int)) := hI 3 _ rfl; have y4 : w.cell? ⟨Bx, O + k * 12 + 2 + 2, none⟩ = some (.int .u64 (p.o.seq : Int)) := hI 4 _ rfl; have y5 : w.cell? ⟨Bx, O + k * 12 + 2 + 3, none⟩ = some (.int .i64 p.o.tr) := hI 5 _ rfl; have b2 : w.cell? ⟨q, 2, none⟩ = some (.int .i64 i.o.node) := hB.cell 2; have b3 : w.cell? ⟨q, 3, none⟩ = some (.int .u64 (i.o.epoch : Int)) := hB.cell 3; have b4 : w.cell? ⟨q, 4, none⟩ = some (.int .u64 (i.o.seq : Int)) := hB.cell 4; have b5 : w.cell? ⟨q, 5, none⟩ = some (.int .i64 i.o.tr) := hB.cell 5; clear hI hB; go_simp) <;> (with_reducible rfl)
            try simp only [Act.put, List.setIfInBounds_toArray, List.set_cons_zero, List.set_cons_succ]
            refine wpAnyH_take (i := 4) (oi := ⟨some 34, _, _, _, _, _⟩) (v := ?_) rfl (by kernel_rfl) (by kernel_rfl) (by kernel_rfl) (fun _ _ _ h => h) (Or.inl ⟨by rfl, ?_⟩) (by assumption) ?_
            rotate_left 1
            · (intro w hSw; (try dsimp only at hSw); obtain ⟨hI, hB⟩ := hSw; have k0 : w.cell? ⟨Bx, O + k * 12, none⟩ = some (.int .i64 p.kind) := hI 0 _ rfl; have k2 : w.cell? ⟨Bx, O + k * 12 + 2, none⟩ = some (.int .i64 p.o.node) := hI 2 _ rfl; have k3 : w.cell? ⟨Bx, O + k * 12 + 3, none⟩ = some (.int .u64 (p.o.epoch : Int)) := hI 3 _ rfl; have k4 : w.cell? ⟨Bx, O + k * 12 + 4, none⟩ = some (.int .u64 (p.o.seq : Int)) := hI 4 _ rfl; have k5 : w.cell? ⟨Bx, O + k * 12 + 5, none⟩ = some (.int .i64 p.o.tr) := hI 5 _ rfl; have y3 : w.cell? ⟨Bx, O + k * 12 + 2 + 1, none⟩ = some (.int .u64 (p.o.epoch : Int)) := hI 3 _ rfl; have y4 : w.cell? ⟨Bx, O + k * 12 + 2 + 2, none⟩ = some (.int .u64 (p.o.seq : Int)) := hI 4 _ rfl; have y5 : w.cell? ⟨Bx, O + k * 12 + 2 + 3, none⟩ = some (.int .i64 p.o.tr) := hI 5 _ rfl; have b2 : w.cell? ⟨q, 2, none⟩ = some (.int .i64 i.o.node) := hB.cell 2; have b3 : w.cell? ⟨q, 3, none⟩ = some (.int .u64 (i.o.epoch : Int)) := hB.cell 3; have b4 : w.cell? ⟨q, 4, none⟩ = some (.int .u64 (i.o.seq : Int)) := hB.cell 4; have b5 : w.cell? ⟨q, 5, none⟩ = some (.int .i64 i.o.tr) := hB.cell 5; clear hI hB; go_simp) <;> (with_reducible rfl)
            try simp only [Act.put, List.setIfInBounds_toArray, List.set_cons_zero, List.set_cons_succ]
            refine wpAnyH_take (i := 5) (oi := ⟨some 35, _, _, _, _, _⟩) (v := ?_) rfl (by kernel_rfl) (by kernel_rfl) (by kernel_rfl) (fun _ _ _ h => h) (Or.inl ⟨by rfl, ?_⟩) (by assumption) ?_
            rotate_left 1
            · (intro w hSw; (try dsimp only at hSw); obtain ⟨hI, hB⟩ := hSw; have k0 : w.cell? ⟨Bx, O + k * 12, none⟩ = some (.int .i64 p.kind) := hI 0 _ rfl; have k2 : w.cell? ⟨Bx, O + k * 12 + 2, none⟩ = some (.int .i64 p.o.node) := hI 2 _ rfl; have k3 : w.cell? ⟨Bx, O + k * 12 + 3, none⟩ = some (.int .u64 (p.o.epoch : Int)) := hI 3 _ rfl; have k4 : w.cell? ⟨Bx, O + k * 12 + 4, none⟩ = some (.int .u64 (p.o.seq : Int)) := hI 4 _ rfl; have k5 : w.cell? ⟨Bx, O + k * 12 + 5, none⟩ = some (.int .i64 p.o.tr) := hI 5 _ rfl; have y3 : w.cell? ⟨Bx, O + k * 12 + 2 + 1, none⟩ = some (.int .u64 (p.o.epoch : Int)) := hI 3 _ rfl; have y4 : w.cell? ⟨Bx, O + k * 12 + 2 + 2, none⟩ = some (.int .u64 (p.o.seq : Int)) := hI 4 _ rfl; have y5 : w.cell? ⟨Bx, O + k * 12 + 2 + 3, none⟩ = some (.int .i64 p.o.tr) := hI 5 _ rfl; have b2 : w.cell? ⟨q, 2, none⟩ = some (.int .i64 i.o.node) := hB.cell 2; have b3 : w.cell? ⟨q, 3, none⟩ = some (.int .u64 (i.o.epoch : Int)) := hB.cell 3; have b4 : w.cell? ⟨q, 4, none⟩ = some (.int .u64 (i.o.seq : Int)) := hB.cell 4; have b5 : w.cell? ⟨q, 5, none⟩ = some (.int .i64 i.o.tr) := hB.cell 5; clear hI hB; go_simp) <;> (with_reducible rfl)
            try simp only [Act.put, List.setIfInBounds_toArray, List.set_cons_zero, List.set_cons_succ]
            refine wpAnyH_take (i := 6) (oi := ⟨some 36, _, _, _, _, _⟩) (v := ?_) rfl (by kernel_rfl) (by kernel_rfl) (by kernel_rfl) (fun _ _ _ h => h) (Or.inl ⟨by rfl, ?_⟩) (by assumption) ?_
            rotate_left 1
            · (intro w hSw; (try dsimp only at hSw); obtain ⟨hI, hB⟩ := hSw; have k0 : w.cell? ⟨Bx, O + k * 12, none⟩ = some (.int .i64 p.kind) := hI 0 _ rfl; have k2 : w.cell? ⟨Bx, O + k * 12 + 2, none⟩ = some (.int .i64 p.o.node) := hI 2 _ rfl; have k3 : w.cell? ⟨Bx, O + k * 12 + 3, none⟩ = some (.int .u64 (p.o.epoch : Int)) := hI 3 _ rfl; have k4 : w.cell? ⟨Bx, O + k * 12 + 4, none⟩ = some (.int .u64 (p.o.seq : Int)) := hI 4 _ rfl; have k5 : w.cell? ⟨Bx, O + k * 12 + 5, none⟩ = some (.int .i64 p.o.tr) := hI 5 _ rfl; have y3 : w.cell? ⟨Bx, O + k * 12 + 2 + 1, none⟩ = some (.int .u64 (p.o.epoch : Int)) := hI 3 _ rfl; have y4 : w.cell? ⟨Bx, O + k * 12 + 2 + 2, none⟩ = some (.int .u64 (p.o.seq : Int)) := hI 4 _ rfl; have y5 : w.cell? ⟨Bx, O + k * 12 + 2 + 3, none⟩ = some (.int .i64 p.o.tr) := hI 5 _ rfl; have b2 : w.cell? ⟨q, 2, none⟩ = some (.int .i64 i.o.node) := hB.cell 2; have b3 : w.cell? ⟨q, 3, none⟩ = some (.int .u64 (i.o.epoch : Int)) := hB.cell 3; have b4 : w.cell? ⟨q, 4, none⟩ = some (.int .u64 (i.o.seq : Int)) := hB.cell 4; have b5 : w.cell? ⟨q, 5, none⟩ = some (.int .i64 i.o.tr) := hB.cell 5; clear hI hB; go_simp) <;> (with_reducible rfl)
            try simp only [Act.put, List.setIfInBounds_toArray, List.set_cons_zero, List.set_cons_succ]
            refine wpAnyH_take (i := 7) (oi := ⟨some 37, _, _, _, _, _⟩) (v := ?_) rfl (by kernel_rfl) (by kernel_rfl) (by kernel_rfl) (fun _ _ _ h => h) (Or.inl ⟨by rfl, ?_⟩) (by assumption) ?_
            rotate_left 1
            · (intro w hSw; (try dsimp only at hSw); obtain ⟨hI, hB⟩ := hSw; have k0 : w.cell? ⟨Bx, O + k * 12, none⟩ = some (.int .i64 p.kind) := hI 0 _ rfl; have k2 : w.cell? ⟨Bx, O + k * 12 + 2, none⟩ = some (.int .i64 p.o.node) := hI 2 _ rfl; have k3 : w.cell? ⟨Bx, O + k * 12 + 3, none⟩ = some (.int .u64 (p.o.epoch : Int)) := hI 3 _ rfl; have k4 : w.cell? ⟨Bx, O + k * 12 + 4, none⟩ = some (.int .u64 (p.o.seq : Int)) := hI 4 _ rfl; have k5 : w.cell? ⟨Bx, O + k * 12 + 5, none⟩ = some (.int .i64 p.o.tr) := hI 5 _ rfl; have y3 : w.cell? ⟨Bx, O + k * 12 + 2 + 1, none⟩ = some (.int .u64 (p.o.epoch : Int)) := hI 3 _ rfl; have y4 : w.cell? ⟨Bx, O + k * 12 + 2 + 2, none⟩ = some (.int .u64 (p.o.seq : Int)) := hI 4 _ rfl; have y5 : w.cell? ⟨Bx, O + k * 12 + 2 + 3, none⟩ = some (.int .i64 p.o.tr) := hI 5 _ rfl; have b2 : w.cell? ⟨q, 2, none⟩ = some (.int .i64 i.o.node) := hB.cell 2; have b3 : w.cell? ⟨q, 3, none⟩ = some (.int .u64 (i.o.epoch : Int)) := hB.cell 3; have b4 : w.cell? ⟨q, 4, none⟩ = some (.int .u64 (i.o.seq : Int)) := hB.cell 4; have b5 : w.cell? ⟨q, 5, none⟩ = some (.int .i64 i.o.tr) := hB.cell 5; clear hI hB; go_simp) <;> (with_reducible rfl)
            try simp only [Act.put, List.setIfInBounds_toArray, List.set_cons_zero, List.set_cons_succ]
            refine wpAnyH_take (i := 8) (oi := ⟨some 38, _, _, _, _, _⟩) (v := ?_) rfl (by kernel_rfl) (by kernel_rfl) (by kernel_rfl) (fun _ _ _ h => h) (Or.inl ⟨by rfl, ?_⟩) (by assumption) ?_
            rotate_left 1
            · (intro w hSw; (try dsimp only at hSw); obtain ⟨hI, hB⟩ := hSw; have k0 : w.cell? ⟨Bx, O + k * 12, none⟩ = some (.int .i64 p.kind) := hI 0 _ rfl; have k2 : w.cell? ⟨Bx, O + k * 12 + 2, none⟩ = some (.int .i64 p.o.node) := hI 2 _ rfl; have k3 : w.cell? ⟨Bx, O + k * 12 + 3, none⟩ = some (.int .u64 (p.o.epoch : Int)) := hI 3 _ rfl; have k4 : w.cell? ⟨Bx, O + k * 12 + 4, none⟩ = some (.int .u64 (p.o.seq : Int)) := hI 4 _ rfl; have k5 : w.cell? ⟨Bx, O + k * 12 + 5, none⟩ = some (.int .i64 p.o.tr) := hI 5 _ rfl; have y3 : w.cell? ⟨Bx, O + k * 12 + 2 + 1, none⟩ = some (.int .u64 (p.o.epoch : Int)) := hI 3 _ rfl; have y4 : w.cell? ⟨Bx, O + k * 12 + 2 + 2, none⟩ = some (.int .u64 (p.o.seq : Int)) := hI 4 _ rfl; have y5 : w.cell? ⟨Bx, O + k * 12 + 2 + 3, none⟩ = some (.int .i64 p.o.tr) := hI 5 _ rfl; have b2 : w.cell? ⟨q, 2, none⟩ = some (.int .i64 i.o.node) := hB.cell 2; have b3 : w.cell? ⟨q, 3, none⟩ = some (.int .u64 (i.o.epoch : Int)) := hB.cell 3; have b4 : w.cell? ⟨q, 4, none⟩ = some (.int .u64 (i.o.seq : Int)) := hB.cell 4; have b5 : w.cell? ⟨q, 5, none⟩ = some (.int .i64 i.o.tr) := hB.cell 5; clear hI hB; go_simp) <;> (with_reducible rfl)
            try simp only [Act.put, List.setIfInBounds_toArray, List.set_cons_zero, List.set_cons_succ]
            refine wpAnyH_take (i := 9) (oi := ⟨some 39, _, _, _, _, _⟩) (v := ?_) rfl (by kernel_rfl) (by kernel_rfl) (by kernel_rfl) (fun _ _ _ h => h) (Or.inl ⟨by rfl, ?_⟩) (by assumption) ?_
            rotate_left 1
            · (intro w hSw; (try dsimp only at hSw); obtain ⟨hI, hB⟩ := hSw; have k0 : w.cell? ⟨Bx, O + k * 12, none⟩ = some (.int .i64 p.kind) := hI 0 _ rfl; have k2 : w.cell? ⟨Bx, O + k * 12 + 2, none⟩ = some (.int .i64 p.o.node) := hI 2 _ rfl; have k3 : w.cell? ⟨Bx, O + k * 12 + 3, none⟩ = some (.int .u64 (p.o.epoch : Int)) := hI 3 _ rfl; have k4 : w.cell? ⟨Bx, O + k * 12 + 4, none⟩ = some (.int .u64 (p.o.seq : Int)) := hI 4 _ rfl; have k5 : w.cell? ⟨Bx, O + k * 12 + 5, none⟩ = some (.int .i64 p.o.tr) := hI 5 _ rfl; have y3 : w.cell? ⟨Bx, O + k * 12 + 2 + 1, none⟩ = some (.int .u64 (p.o.epoch : Int)) := hI 3 _ rfl; have y4 : w.cell? ⟨Bx, O + k * 12 + 2 + 2, none⟩ = some (.int .u64 (p.o.seq : Int)) := hI 4 _ rfl; have y5 : w.cell? ⟨Bx, O + k * 12 + 2 + 3, none⟩ = some (.int .i64 p.o.tr) := hI 5 _ rfl; have b2 : w.cell? ⟨q, 2, none⟩ = some (.int .i64 i.o.node) := hB.cell 2; have b3 : w.cell? ⟨q, 3, none⟩ = some (.int .u64 (i.o.epoch : Int)) := hB.cell 3; have b4 : w.cell? ⟨q, 4, none⟩ = some (.int .u64 (i.o.seq : Int)) := hB.cell 4; have b5 : w.cell? ⟨q, 5, none⟩ = some (.int .i64 i.o.tr) := hB.cell 5; clear hI hB; go_simp) <;> (with_reducible rfl)
            try simp only [Act.put, List.setIfInBounds_toArray, List.set_cons_zero, List.set_cons_succ]
            refine wpAnyH_take (i := 10) (oi := ⟨some 40, _, _, _, _, _⟩) (v := ?_) rfl (by kernel_rfl) (by kernel_rfl) (by kernel_rfl) (fun _ _ _ h => h) (Or.inl ⟨by rfl, ?_⟩) (by assumption) ?_
            rotate_left 1
            · (intro w hSw; (try dsimp only at hSw); obtain ⟨hI, hB⟩ := hSw; have k0 : w.cell? ⟨Bx, O + k * 12, none⟩ = some (.int .i64 p.kind) := hI 0 _ rfl; have k2 : w.cell? ⟨Bx, O + k * 12 + 2, none⟩ = some (.int .i64 p.o.node) := hI 2 _ rfl; have k3 : w.cell? ⟨Bx, O + k * 12 + 3, none⟩ = some (.int .u64 (p.o.epoch : Int)) := hI 3 _ rfl; have k4 : w.cell? ⟨Bx, O + k * 12 + 4, none⟩ = some (.int .u64 (p.o.seq : Int)) := hI 4 _ rfl; have k5 : w.cell? ⟨Bx, O + k * 12 + 5, none⟩ = some (.int .i64 p.o.tr) := hI 5 _ rfl; have y3 : w.cell? ⟨Bx, O + k * 12 + 2 + 1, none⟩ = some (.int .u64 (p.o.epoch : Int)) := hI 3 _ rfl; have y4 : w.cell? ⟨Bx, O + k * 12 + 2 + 2, none⟩ = some (.int .u64 (p.o.seq : Int)) := hI 4 _ rfl; have y5 : w.cell? ⟨Bx, O + k * 12 + 2 + 3, none⟩ = some (.int .i64 p.o.tr) := hI 5 _ rfl; have b2 : w.cell? ⟨q, 2, none⟩ = some (.int .i64 i.o.node) := hB.cell 2; have b3 : w.cell? ⟨q, 3, none⟩ = some (.int .u64 (i.o.epoch : Int)) := hB.cell 3; have b4 : w.cell? ⟨q, 4, none⟩ = some (.int .u64 (i.o.seq : Int)) := hB.cell 4; have b5 : w.cell? ⟨q, 5, none⟩ = some (.int .i64 i.o.tr) := hB.cell 5; clear hI hB; go_simp) <;> (with_reducible rfl)
            try simp only [Act.put, List.setIfInBounds_toArray, List.set_cons_zero, List.set_cons_succ]
            refine wpAnyH_take (i := 11) (oi := ⟨some 41, _, _, _, _, _⟩) (v := ?_) rfl (by kernel_rfl) (by kernel_rfl) (by kernel_rfl) (fun _ _ _ h => h) (Or.inl ⟨by rfl, ?_⟩) (by assumption) ?_
            rotate_left 1
            · (intro w hSw; (try dsimp only at hSw); obtain ⟨hI, hB⟩ := hSw; have k0 : w.cell? ⟨Bx, O + k * 12, none⟩ = some (.int .i64 p.kind) := hI 0 _ rfl; have k2 : w.cell? ⟨Bx, O + k * 12 + 2, none⟩ = some (.int .i64 p.o.node) := hI 2 _ rfl; have k3 : w.cell? ⟨Bx, O + k * 12 + 3, none⟩ = some (.int .u64 (p.o.epoch : Int)) := hI 3 _ rfl; have k4 : w.cell? ⟨Bx, O + k * 12 + 4, none⟩ = some (.int .u64 (p.o.seq : Int)) := hI 4 _ rfl; have k5 : w.cell? ⟨Bx, O + k * 12 + 5, none⟩ = some (.int .i64 p.o.tr) := hI 5 _ rfl; have y3 : w.cell? ⟨Bx, O + k * 12 + 2 + 1, none⟩ = some (.int .u64 (p.o.epoch : Int)) := hI 3 _ rfl; have y4 : w.cell? ⟨Bx, O + k * 12 + 2 + 2, none⟩ = some (.int .u64 (p.o.seq : Int)) := hI 4 _ rfl; have y5 : w.cell? ⟨Bx, O + k * 12 + 2 + 3, none⟩ = some (.int .i64 p.o.tr) := hI 5 _ rfl; have b2 : w.cell? ⟨q, 2, none⟩ = some (.int .i64 i.o.node) := hB.cell 2; have b3 : w.cell? ⟨q, 3, none⟩ = some (.int .u64 (i.o.epoch : Int)) := hB.cell 3; have b4 : w.cell? ⟨q, 4, none⟩ = some (.int .u64 (i.o.seq : Int)) := hB.cell 4; have b5 : w.cell? ⟨q, 5, none⟩ = some (.int .i64 i.o.tr) := hB.cell 5; clear hI hB; go_simp) <;> (with_reducible rfl)
            try simp only [Act.put, List.setIfInBounds_toArray, List.set_cons_zero, List.set_cons_succ]
            refine wpAnyH_take (i := 12) (oi := ⟨some 42, _, _, _, _, _⟩) (v := ?_) rfl (by kernel_rfl) (by kernel_rfl) (by kernel_rfl) (fun _ _ _ h => h) (Or.inl ⟨by rfl, ?_⟩) (by assumption) ?_
            rotate_left 1
            · (intro w hSw; (try dsimp only at hSw); obtain ⟨hI, hB⟩ := hSw; have k0 : w.cell? ⟨Bx, O + k * 12, none⟩ = some (.int .i64 p.kind) := hI 0 _ rfl; have k2 : w.cell? ⟨Bx, O + k * 12 + 2, none⟩ = some (.int .i64 p.o.node) := hI 2 _ rfl; have k3 : w.cell? ⟨Bx, O + k * 12 + 3, none⟩ = some (.int .u64 (p.o.epoch : Int)) := hI 3 _ rfl; have k4 : w.cell? ⟨Bx, O + k * 12 + 4, none⟩ = some (.int .u64 (p.o.seq : Int)) := hI 4 _ rfl; have k5 : w.cell? ⟨Bx, O + k * 12 + 5, none⟩ = some (.int .i64 p.o.tr) := hI 5 _ rfl; have y3 : w.cell? ⟨Bx, O + k * 12 + 2 + 1, none⟩ = some (.int .u64 (p.o.epoch : Int)) := hI 3 _ rfl; have y4 : w.cell? ⟨Bx, O + k * 12 + 2 + 2, none⟩ = some (.int .u64 (p.o.seq : Int)) := hI 4 _ rfl; have y5 : w.cell? ⟨Bx, O + k * 12 + 2 + 3, none⟩ = some (.int .i64 p.o.tr) := hI 5 _ rfl; have b2 : w.cell? ⟨q, 2, none⟩ = some (.int .i64 i.o.node) := hB.cell 2; have b3 : w.cell? ⟨q, 3, none⟩ = some (.int .u64 (i.o.epoch : Int)) := hB.cell 3; have b4 : w.cell? ⟨q, 4, none⟩ = some (.int .u64 (i.o.seq : Int)) := hB.cell 4; have b5 : w.cell? ⟨q, 5, none⟩ = some (.int .i64 i.o.tr) := hB.cell 5; clear hI hB; go_simp) <;> (with_reducible rfl)
            try simp only [Act.put, List.setIfInBounds_toArray, List.set_cons_zero, List.set_cons_succ]
            refine wpAnyH_take (i := 13) (oi := ⟨some 43, _, _, _, _, _⟩) (v := ?_) rfl (by kernel_rfl) (by kernel_rfl) (by kernel_rfl) (fun _ _ _ h => h) (Or.inl ⟨by rfl, ?_⟩) (by assumption) ?_
            rotate_left 1
            · (intro w hSw; (try dsimp only at hSw); obtain ⟨hI, hB⟩ := hSw; have k0 : w.cell? ⟨Bx, O + k * 12, none⟩ = some (.int .i64 p.kind) := hI 0 _ rfl; have k2 : w.cell? ⟨Bx, O + k * 12 + 2, none⟩ = some (.int .i64 p.o.node) := hI 2 _ rfl; have k3 : w.cell? ⟨Bx, O + k * 12 + 3, none⟩ = some (.int .u64 (p.o.epoch : Int)) := hI 3 _ rfl; have k4 : w.cell? ⟨Bx, O + k * 12 + 4, none⟩ = some (.int .u64 (p.o.seq : Int)) := hI 4 _ rfl; have k5 : w.cell? ⟨Bx, O + k * 12 + 5, none⟩ = some (.int .i64 p.o.tr) := hI 5 _ rfl; have y3 : w.cell? ⟨Bx, O + k * 12 + 2 + 1, none⟩ = some (.int .u64 (p.o.epoch : Int)) := hI 3 _ rfl; have y4 : w.cell? ⟨Bx, O + k * 12 + 2 + 2, none⟩ = some (.int .u64 (p.o.seq : Int)) := hI 4 _ rfl; have y5 : w.cell? ⟨Bx, O + k * 12 + 2 + 3, none⟩ = some (.int .i64 p.o.tr) := hI 5 _ rfl; have b2 : w.cell? ⟨q, 2, none⟩ = some (.int .i64 i.o.node) := hB.cell 2; have b3 : w.cell? ⟨q, 3, none⟩ = some (.int .u64 (i.o.epoch : Int)) := hB.cell 3; have b4 : w.cell? ⟨q, 4, none⟩ = some (.int .u64 (i.o.seq : Int)) := hB.cell 4; have b5 : w.cell? ⟨q, 5, none⟩ = some (.int .i64 i.o.tr) := hB.cell 5; clear hI hB; go_simp) <;> (with_reducible rfl)
            try simp only [Act.put, List.setIfInBounds_toArray, List.set_cons_zero, List.set_cons_succ]
            refine wpAnyH_take (i := 14) (oi := ⟨some 44, _, _, _, _, _⟩) (v := ?_) rfl (by kernel_rfl) (by kernel_rfl) (by kernel_rfl) (fun _ _ _ h => h) (Or.inl ⟨by rfl, ?_⟩) (by assumption) ?_
            rotate_left 1
            · (intro w hSw; (try dsimp only at hSw); obtain ⟨hI, hB⟩ := hSw; have k0 : w.cell? ⟨Bx, O + k * 12, none⟩ = some (.int .i64 p.kind) := hI 0 _ rfl; have k2 : w.cell? ⟨Bx, O + k * 12 + 2, none⟩ = some (.int .i64 p.o.node) := hI 2 _ rfl; have k3 : w.cell? ⟨Bx, O + k * 12 + 3, none⟩ = some (.int .u64 (p.o.epoch : Int)) := hI 3 _ rfl; have k4 : w.cell? ⟨Bx, O + k * 12 + 4, none⟩ = some (.int .u64 (p.o.seq : Int)) := hI 4 _ rfl; have k5 : w.cell? ⟨Bx, O + k * 12 + 5, none⟩ = some (.int .i64 p.o.tr) := hI 5 _ rfl; have y3 : w.cell? ⟨Bx, O + k * 12 + 2 + 1, none⟩ = some (.int .u64 (p.o.epoch : Int)) := hI 3 _ rfl; have y4 : w.cell? ⟨Bx, O + k * 12 + 2 + 2, none⟩ = some (.int .u64 (p.o.seq : Int)) := hI 4 _ rfl; have y5 : w.cell? ⟨Bx, O + k * 12 + 2 + 3, none⟩ = some (.int .i64 p.o.tr) := hI 5 _ rfl; have b2 : w.cell? ⟨q, 2, none⟩ = some (.int .i64 i.o.node) := hB.cell 2; have b3 : w.cell? ⟨q, 3, none⟩ = some (.int .u64 (i.o.epoch : Int)) := hB.cell 3; have b4 : w.cell? ⟨q, 4, none⟩ = some (.int .u64 (i.o.seq : Int)) := hB.cell 4; have b5 : w.cell? ⟨q, 5, none⟩ = some (.int .i64 i.o.tr) := hB.cell 5; clear hI hB; go_simp) <;> (with_reducible rfl)
            try simp only [Act.put, List.setIfInBounds_toArray, List.set_cons_zero, List.set_cons_succ]
            refine wpAnyH_take (i := 15) (oi := ⟨some 45, _, _, _, _, _⟩) (v := ?_) rfl (by kernel_rfl) (by kernel_rfl) (by kernel_rfl) (fun _ _ _ h => h) (Or.inl ⟨by rfl, ?_⟩) (by assumption) ?_
            rotate_left 1
            · (intro w hSw; (try dsimp only at hSw); obtain ⟨hI, hB⟩ := hSw; have k0 : w.cell? ⟨Bx, O + k * 12, none⟩ = some (.int .i64 p.kind) := hI 0 _ rfl; have k2 : w.cell? ⟨Bx, O + k * 12 + 2, none⟩ = some (.int .i64 p.o.node) := hI 2 _ rfl; have k3 : w.cell? ⟨Bx, O + k * 12 + 3, none⟩ = some (.int .u64 (p.o.epoch : Int)) := hI 3 _ rfl; have k4 : w.cell? ⟨Bx, O + k * 12 + 4, none⟩ = some (.int .u64 (p.o.seq : Int)) := hI 4 _ rfl; have k5 : w.cell? ⟨Bx, O + k * 12 + 5, none⟩ = some (.int .i64 p.o.tr) := hI 5 _ rfl; have y3 : w.cell? ⟨Bx, O + k * 12 + 2 + 1, none⟩ = some (.int .u64 (p.o.epoch : Int)) := hI 3 _ rfl; have y4 : w.cell? ⟨Bx, O + k * 12 + 2 + 2, none⟩ = some (.int .u64 (p.o.seq : Int)) := hI 4 _ rfl; have y5 : w.cell? ⟨Bx, O + k * 12 + 2 + 3, none⟩ = some (.int .i64 p.o.tr) := hI 5 _ rfl; have b2 : w.cell? ⟨q, 2, none⟩ = some (.int .i64 i.o.node) := hB.cell 2; have b3 : w.cell? ⟨q, 3, none⟩ = some (.int .u64 (i.o.epoch : Int)) := hB.cell 3; have b4 : w.cell? ⟨q, 4, none⟩ = some (.int .u64 (i.o.seq : Int)) := hB.cell 4; have b5 : w.cell? ⟨q, 5, none⟩ = some (.int .i64 i.o.tr) := hB.cell 5; clear hI hB; go_simp) <;> (with_reducible rfl)
            try simp only [Act.put, List.setIfInBounds_toArray, List.set_cons_zero, List.set_cons_succ]
            refine wpAnyH_take (i := 16) (oi := ⟨some 46, _, _, _, _, _⟩) (v := ?_) rfl (by kernel_rfl) (by kernel_rfl) (by kernel_rfl) (fun _ _ _ h => h) (Or.inl ⟨by rfl, ?_⟩) (by assumption) ?_
            rotate_left 1
            · (intro w hSw; (try dsimp only at hSw); obtain ⟨hI, hB⟩ := hSw; have k0 : w.cell? ⟨Bx, O + k * 12, none⟩ = some (.int .i64 p.kind) := hI 0 _ rfl; have k2 : w.cell? ⟨Bx, O + k * 12 + 2, none⟩ = some (.int .i64 p.o.node) := hI 2 _ rfl; have k3 : w.cell? ⟨Bx, O + k * 12 + 3, none⟩ = some (.int .u64 (p.o.epoch : Int)) := hI 3 _ rfl; have k4 : w.cell? ⟨Bx, O + k * 12 + 4, none⟩ = some (.int .u64 (p.o.seq : Int)) := hI 4 _ rfl; have k5 : w.cell? ⟨Bx, O + k * 12 + 5, none⟩ = some (.int .i64 p.o.tr) := hI 5 _ rfl; have y3 : w.cell? ⟨Bx, O + k * 12 + 2 + 1, none⟩ = some (.int .u64 (p.o.epoch : Int)) := hI 3 _ rfl; have y4 : w.cell? ⟨Bx, O + k * 12 + 2 + 2, none⟩ = some (.int .u64 (p.o.seq : Int)) := hI 4 _ rfl; have y5 : w.cell? ⟨Bx, O + k * 12 + 2 + 3, none⟩ = some (.int .i64 p.o.tr) := hI 5 _ rfl; have b2 : w.cell? ⟨q, 2, none⟩ = some (.int .i64 i.o.node) := hB.cell 2; have b3 : w.cell? ⟨q, 3, none⟩ = some (.int .u64 (i.o.epoch : Int)) := hB.cell 3; have b4 : w.cell? ⟨q, 4, none⟩ = some (.int .u64 (i.o.seq : Int)) := hB.cell 4; have b5 : w.cell? ⟨q, 5, none⟩ = some (.int .i64 i.o.tr) := hB.cell 5; clear hI hB; go_simp) <;> (with_reducible rfl)
            try simp only [Act.put, List.setIfInBounds_toArray, List.set_cons_zero, List.set_cons_succ]
            refine wpAnyH_take (i := 17) (oi := ⟨some 47, _, _, _, _, _⟩) (v := ?_) rfl (by kernel_rfl) (by kernel_rfl) (by kernel_rfl) (fun _ _ _ h => h) (Or.inl ⟨by rfl, ?_⟩) (by assumption) ?_
            rotate_left 1
            · (intro w hSw; (try dsimp only at hSw); obtain ⟨hI, hB⟩ := hSw; have k0 : w.cell? ⟨Bx, O + k * 12, none⟩ = some (.int .i64 p.kind) := hI 0 _ rfl; have k2 : w.cell? ⟨Bx, O + k * 12 + 2, none⟩ = some (.int .i64 p.o.node) := hI 2 _ rfl; have k3 : w.cell? ⟨Bx, O + k * 12 + 3, none⟩ = some (.int .u64 (p.o.epoch : Int)) := hI 3 _ rfl; have k4 : w.cell? ⟨Bx, O + k * 12 + 4, none⟩ = some (.int .u64 (p.o.seq : Int)) := hI 4 _ rfl; have k5 : w.cell? ⟨Bx, O + k * 12 + 5, none⟩ = some (.int .i64 p.o.tr) := hI 5 _ rfl; have y3 : w.cell? ⟨Bx, O + k * 12 + 2 + 1, none⟩ = some (.int .u64 (p.o.epoch : Int)) := hI 3 _ rfl; have y4 : w.cell? ⟨Bx, O + k * 12 + 2 + 2, none⟩ = some (.int .u64 (p.o.seq : Int)) := hI 4 _ rfl; have y5 : w.cell? ⟨Bx, O + k * 12 + 2 + 3, none⟩ = some (.int .i64 p.o.tr) := hI 5 _ rfl; have b2 : w.cell? ⟨q, 2, none⟩ = some (.int .i64 i.o.node) := hB.cell 2; have b3 : w.cell? ⟨q, 3, none⟩ = some (.int .u64 (i.o.epoch : Int)) := hB.cell 3; have b4 : w.cell? ⟨q, 4, none⟩ = some (.int .u64 (i.o.seq : Int)) := hB.cell 4; have b5 : w.cell? ⟨q, 5, none⟩ = some (.int .i64 i.o.tr) := hB.cell 5; clear hI hB; go_simp) <;> (with_reducible rfl)
            try simp only [Act.put, List.setIfInBounds_toArray, List.set_cons_zero, List.set_cons_succ]
            refine wpAnyH_take (i := 18) (oi := ⟨some 48, _, _, _, _, _⟩) (v := ?_) rfl (by kernel_rfl) (by kernel_rfl) (by kernel_rfl) (fun _ _ _ h => h) (Or.inl ⟨by rfl, ?_⟩) (by assumption) ?_
            rotate_left 1
            · (intro w hSw; (try dsimp only at hSw); obtain ⟨hI, hB⟩ := hSw; have k0 : w.cell? ⟨Bx, O + k * 12, none⟩ = some (.int .i64 p.kind) := hI 0 _ rfl; have k2 : w.cell? ⟨Bx, O + k * 12 + 2, none⟩ = some (.int .i64 p.o.node) := hI 2 _ rfl; have k3 : w.cell? ⟨Bx, O + k * 12 + 3, none⟩ = some (.int .u64 (p.o.epoch : Int)) := hI 3 _ rfl; have k4 : w.cell? ⟨Bx, O + k * 12 + 4, none⟩ = some (.int .u64 (p.o.seq : Int)) := hI 4 _ rfl; have k5 : w.cell? ⟨Bx, O + k * 12 + 5, none⟩ = some (.int .i64 p.o.tr) := hI 5 _ rfl; have y3 : w.cell? ⟨Bx, O + k * 12 + 2 + 1, none⟩ = some (.int .u64 (p.o.epoch : Int)) := hI 3 _ rfl; have y4 : w.cell? ⟨Bx, O + k * 12 + 2 + 2, none⟩ = some (.int .u64 (p.o.seq : Int)) := hI 4 _ rfl; have y5 : w.cell? ⟨Bx, O + k * 12 + 2 + 3, none⟩ = some (.int .i64 p.o.tr) := hI 5 _ rfl; have b2 : w.cell? ⟨q, 2, none⟩ = some (.int .i64 i.o.node) := hB.cell 2; have b3 : w.cell? ⟨q, 3, none⟩ = some (.int .u64 (i.o.epoch : Int)) := hB.cell 3; have b4 : w.cell? ⟨q, 4, none⟩ = some (.int .u64 (i.o.seq : Int)) := hB.cell 4; have b5 : w.cell? ⟨q, 5, none⟩ = some (.int .i64 i.o.tr) := hB.cell 5; clear hI hB; go_simp) <;> (with_reducible rfl)
            try simp only [Act.put, List.setIfInBounds_toArray, List.set_cons_zero, List.set_cons_succ]
            refine wpAnyH_take (i := 19) (oi := ⟨some 49, _, _, _, _, _⟩) (v := ?_) rfl (by kernel_rfl) (by kernel_rfl) (by kernel_rfl) (fun _ _ _ h => h) (Or.inl ⟨by rfl, ?_⟩) (by assumption) ?_
            rotate_left 1
            · (intro w hSw; (try dsimp only at hSw); obtain ⟨hI, hB⟩ := hSw; have k0 : w.cell? ⟨Bx, O + k * 12, none⟩ = some (.int .i64 p.kind) := hI 0 _ rfl; have k2 : w.cell? ⟨Bx, O + k * 12 + 2, none⟩ = some (.int .i64 p.o.node) := hI 2 _ rfl; have k3 : w.cell? ⟨Bx, O + k * 12 + 3, none⟩ = some (.int .u64 (p.o.epoch : Int)) := hI 3 _ rfl; have k4 : w.cell? ⟨Bx, O + k * 12 + 4, none⟩ = some (.int .u64 (p.o.seq : Int)) := hI 4 _ rfl; have k5 : w.cell? ⟨Bx, O + k * 12 + 5, none⟩ = some (.int .i64 p.o.tr) := hI 5 _ rfl; have y3 : w.cell? ⟨Bx, O + k * 12 + 2 + 1, none⟩ = some (.int .u64 (p.o.epoch : Int)) := hI 3 _ rfl; have y4 : w.cell? ⟨Bx, O + k * 12 + 2 + 2, none⟩ = some (.int .u64 (p.o.seq : Int)) := hI 4 _ rfl; have y5 : w.cell? ⟨Bx, O + k * 12 + 2 + 3, none⟩ = some (.int .i64 p.o.tr) := hI 5 _ rfl; have b2 : w.cell? ⟨q, 2, none⟩ = some (.int .i64 i.o.node) := hB.cell 2; have b3 : w.cell? ⟨q, 3, none⟩ = some (.int .u64 (i.o.epoch : Int)) := hB.cell 3; have b4 : w.cell? ⟨q, 4, none⟩ = some (.int .u64 (i.o.seq : Int)) := hB.cell 4; have b5 : w.cell? ⟨q, 5, none⟩ = some (.int .i64 i.o.tr) := hB.cell 5; clear hI hB; go_simp) <;> (with_reducible rfl)
            try simp only [Act.put, List.setIfInBounds_toArray, List.set_cons_zero, List.set_cons_succ]
            refine wpAnyH_take (i := 20) (oi := ⟨some 50, _, _, _, _, _⟩) (v := ?_) rfl (by kernel_rfl) (by kernel_rfl) (by kernel_rfl) (fun _ _ _ h => h) (Or.inl ⟨by rfl, ?_⟩) (by assumption) ?_
            rotate_left 1
            · (intro w hSw; (try dsimp only at hSw); obtain ⟨hI, hB⟩ := hSw; have k0 : w.cell? ⟨Bx, O + k * 12, none⟩ = some (.int .i64 p.kind) := hI 0 _ rfl; have k2 : w.cell? ⟨Bx, O + k * 12 + 2, none⟩ = some (.int .i64 p.o.node) := hI 2 _ rfl; have k3 : w.cell? ⟨Bx, O + k * 12 + 3, none⟩ = some (.int .u64 (p.o.epoch : Int)) := hI 3 _ rfl; have k4 : w.cell? ⟨Bx, O + k * 12 + 4, none⟩ = some (.int .u64 (p.o.seq : Int)) := hI 4 _ rfl; have k5 : w.cell? ⟨Bx, O + k * 12 + 5, none⟩ = some (.int .i64 p.o.tr) := hI 5 _ rfl; have y3 : w.cell? ⟨Bx, O + k * 12 + 2 + 1, none⟩ = some (.int .u64 (p.o.epoch : Int)) := hI 3 _ rfl; have y4 : w.cell? ⟨Bx, O + k * 12 + 2 + 2, none⟩ = some (.int .u64 (p.o.seq : Int)) := hI 4 _ rfl; have y5 : w.cell? ⟨Bx, O + k * 12 + 2 + 3, none⟩ = some (.int .i64 p.o.tr) := hI 5 _ rfl; have b2 : w.cell? ⟨q, 2, none⟩ = some (.int .i64 i.o.node) := hB.cell 2; have b3 : w.cell? ⟨q, 3, none⟩ = some (.int .u64 (i.o.epoch : Int)) := hB.cell 3; have b4 : w.cell? ⟨q, 4, none⟩ = some (.int .u64 (i.o.seq : Int)) := hB.cell 4; have b5 : w.cell? ⟨q, 5, none⟩ = some (.int .i64 i.o.tr) := hB.cell 5; clear hI hB; go_simp) <;> (with_reducible rfl)
            try simp only [Act.put, List.setIfInBounds_toArray, List.set_cons_zero, List.set_cons_succ]
            refine wpAnyH_take (i := 21) (oi := ⟨some 51, _, _, _, _, _⟩) (v := ?_) rfl (by kernel_rfl) (by kernel_rfl) (by kernel_rfl) (fun _ _ _ h => h) (Or.inl ⟨by rfl, ?_⟩) (by assumption) ?_
            rotate_left 1
            · (intro w hSw; (try dsimp only at hSw); obtain ⟨hI, hB⟩ := hSw; have k0 : w.cell? ⟨Bx, O + k * 12, none⟩ = some (.int .i64 p.kind) := hI 0 _ rfl; have k2 : w.cell? ⟨Bx, O + k * 12 + 2, none⟩ = some (.int .i64 p.o.node) := hI 2 _ rfl; have k3 : w.cell? ⟨Bx, O + k * 12 + 3, none⟩ = some (.int .u64 (p.o.epoch : Int)) := hI 3 _ rfl; have k4 : w.cell? ⟨Bx, O + k * 12 + 4, none⟩ = some (.int .u64 (p.o.seq : Int)) := hI 4 _ rfl; have k5 : w.cell? ⟨Bx, O + k * 12 + 5, none⟩ = some (.int .i64 p.o.tr) := hI 5 _ rfl; have y3 : w.cell? ⟨Bx, O + k * 12 + 2 + 1, none⟩ = some (.int .u64 (p.o.epoch : Int)) := hI 3 _ rfl; have y4 : w.cell? ⟨Bx, O + k * 12 + 2 + 2, none⟩ = some (.int .u64 (p.o.seq : Int)) := hI 4 _ rfl; have y5 : w.cell? ⟨Bx, O + k * 12 + 2 + 3, none⟩ = some (.int .i64 p.o.tr) := hI 5 _ rfl; have b2 : w.cell? ⟨q, 2, none⟩ = some (.int .i64 i.o.node) := hB.cell 2; have b3 : w.cell? ⟨q, 3, none⟩ = some (.int .u64 (i.o.epoch : Int)) := hB.cell 3; have b4 : w.cell? ⟨q, 4, none⟩ = some (.int .u64 (i.o.seq : Int)) := hB.cell 4; have b5 : w.cell? ⟨q, 5, none⟩ = some (.int .i64 i.o.tr) := hB.cell 5; clear hI hB; go_simp) <;> (with_reducible rfl)
            try simp only [Act.put, List.setIfInBounds_toArray, List.set_cons_zero, List.set_cons_succ]
            refine wpAnyH_ready (rs := [22]) (by kernel_rfl) (by simp) ?_
            refine AllReadyH.cons (o := ⟨some 52, _, _, _, _, _⟩) rfl (fun K hK => ?_) AllReadyH.nil
            go_simp
            go_at_call 15
            refine HCJ.out.mono ?_
            clear HCJ hHeld
            rintro e w5 ⟨he, hf5⟩
            obtain rfl : e = .returned (.bool false) := he
            have HF5 : Hid (Fr NoBlk wr w5) := (Fr.refl _ _).drew.trans hf5
            clear hf5
            refine hK.out _ _ ?_ (fun hHeld => ?_)
            · exact HSJ.out _ HF5.out
            clear hK K
            try simp only [Act.put, List.setIfInBounds_toArray, List.set_cons_zero, List.set_cons_succ]
            refine wpAnyH_take (i := 23) (oi := ⟨some 53, _, _, _, _, _⟩) (v := ?_) rfl (by kernel_rfl) (by kernel_rfl) (by kernel_rfl) (fun _ _ _ h => h) (Or.inl ⟨by rfl, ?_⟩) (by assumption) ?_
            rotate_left 1
            · (intro w hSw; (try dsimp only at hSw); obtain ⟨hI, hB⟩ := hSw; have k0 : w.cell? ⟨Bx, O + k * 12, none⟩ = some (.int .i64 p.kind) := hI 0 _ rfl; have k2 : w.cell? ⟨Bx, O + k * 12 + 2, none⟩ = some (.int .i64 p.o.node) := hI 2 _ rfl; have k3 : w.cell? ⟨Bx, O + k * 12 + 3, none⟩ = some (.int .u64 (p.o.epoch : Int)) := hI 3 _ rfl; have k4 : w.cell? ⟨Bx, O + k * 12 + 4, none⟩ = some (.int .u64 (p.o.seq : Int)) := hI 4 _ rfl; have k5 : w.cell? ⟨Bx, O + k * 12 + 5, none⟩ = some (.int .i64 p.o.tr) := hI 5 _ rfl; have y3 : w.cell? ⟨Bx, O + k * 12 + 2 + 1, none⟩ = some (.int .u64 (p.o.epoch : Int)) := hI 3 _ rfl; have y4 : w.cell? ⟨Bx, O + k * 12 + 2 + 2, none⟩ = some (.int .u64 (p.o.seq : Int)) := hI 4 _ rfl; have y5 : w.cell? ⟨Bx, O + k * 12 + 2 + 3, none⟩ = some (.int .i64 p.o.tr) := hI 5 _ rfl; have b2 : w.cell? ⟨q, 2, none⟩ = some (.int .i64 i.o.node) := hB.cell 2; have b3 : w.cell? ⟨q, 3, none⟩ = some (.int .u64 (i.o.epoch : Int)) := hB.cell 3; have b4 : w.cell? ⟨q, 4, none⟩ = some (.int .u64 (i.o.seq : Int)) := hB.cell 4; have b5 : w.cell? ⟨q, 5, none⟩ = some (.int .i64 i.o.tr) := hB.cell 5; clear hI hB; go_simp) <;> (with_reducible rfl)
            try simp only [Act.put, List.setIfInBounds_toArray, List.set_cons_zero, List.set_cons_succ]
            refine wpAnyH_done (by kernel_rfl) ?_ _
            go_wp2_with fail
            go_roundw
            case rel => exact ⟨k + 1, by omega, by go_num, HNE, HFR.out.trans HF5.out⟩
            case measure => simp [intOf]; omega
          | true =>
            have HUP : Hid (mN rg xs n (tgOf i.o) = true) := by
              show _ = _
              have := mN_up HNE.out (n - (k + 1)) (by omega)
              rwa [show k + 1 + (n - (k + 1)) = n from by omega] at this
            refine wpAnyH_take (i := 0) (oi := ⟨some 30, _, _, _, _, _⟩) (v := ?_) rfl (by kernel_rfl) (by kernel_rfl) (by kernel_rfl) (fun _ _ _ h => h) (Or.inl ⟨by rfl, ?_⟩) (by assumption) ?_
            rotate_left 1
            · (intro w hSw; (try dsimp only at hSw); obtain ⟨hI, hB⟩ := hSw; have k0 : w.cell? ⟨Bx, O + k * 12, none⟩ = some (.int .i64 p.kind) := hI 0 _ rfl; have k2 : w.cell? ⟨Bx, O + k * 12 + 2, none⟩ = some (.int .i64 p.o.node) := hI 2 _ rfl; have k3 : w.cell? ⟨Bx, O + k * 12 + 3, none⟩ = some (.int .u64 (p.o.epoch : Int)) := hI 3 _ rfl; have k4 : w.cell? ⟨Bx, O + k * 12 + 4, none⟩ = some (.int .u64 (p.o.seq : Int)) := hI 4 _ rfl; have k5 : w.cell? ⟨Bx, O + k * 12 + 5, none⟩ = some (.int .i64 p.o.tr) := hI 5 _ rfl; have y3 : w.cell? ⟨Bx, O + k * 12 + 2 + 1, none⟩ = some (.int .u64 (p.o.epoch : Int)) := hI 3 _ rfl; have y4 : w.cell? ⟨Bx, O + k * 12 + 2 + 2, none⟩ = some (.int .u64 (p.o.seq : Int)) := hI 4 _ rfl; have y5 : w.cell? ⟨Bx, O + k * 12 + 2 + 3, none⟩ = some (.int .i64 p.o.tr) := hI 5 _ rfl; have b2 : w.cell? ⟨q, 2, none⟩ = some (.int .i64 i.o.node) := hB.cell 2; have b3 : w.cell? ⟨q, 3, none⟩ = some (.int .u64 (i.o.epoch : Int)) := hB.cell 3; have b4 : w.cell? ⟨q, 4, none⟩ = some (.int .u64 (i.o.seq : Int)) := hB.cell 4; have b5 : w.cell? ⟨q, 5, none⟩ = some (.int .i64 i.o.tr) := hB.cell 5; clear hI hB; go_simp) <;> (with_reducible rfl)
            try simp only [Act.put, List.setIfInBounds_toArray, List.set_cons_zero, List.set_cons_succ]
            refine wpAnyH_take (i := 1) (oi := ⟨some 31, _, _, _, _, _⟩) (v := ?_) rfl (by kernel_rfl) (by kernel_rfl) (by kernel_rfl) (fun _ _ _ h => h) (Or.inl ⟨by rfl, ?_⟩) (by assumption) ?_
            rotate_left 1
            · (intro w hSw; (try dsimp only at hSw); obtain ⟨hI, hB⟩ := hSw; have k0 : w.cell? ⟨Bx, O + k * 12, none⟩ = some (.int .i64 p.kind) := hI 0 _ rfl; have k2 : w.cell? ⟨Bx, O + k * 12 + 2, none⟩ = some (.int .i64 p.o.node) := hI 2 _ rfl; have k3 : w.cell? ⟨Bx, O + k * 12 + 3, none⟩ = some (.int .u64 (p.o.epoch : Int)) := hI 3 _ rfl; have k4 : w.cell? ⟨Bx, O + k * 12 + 4, none⟩ = some (.int .u64 (p.o.seq : Int)) := hI 4 _ rfl; have k5 : w.cell? ⟨Bx, O + k * 12 + 5, none⟩ = some (.int .i64 p.o.tr) := hI 5 _ rfl; have y3 : w.cell? ⟨Bx, O + k * 12 + 2 + 1, none⟩ = some (.int .u64 (p.o.epoch : Int)) := hI 3 _ rfl; have y4 : w.cell? ⟨Bx, O + k * 12 + 2 + 2, none⟩ = some (.int .u64 (p.o.seq : Int)) := hI 4 _ rfl; have y5 : w.cell? ⟨Bx, O + k * 12 + 2 + 3, none⟩ = some (.int .i64 p.o.tr) := hI 5 _ rfl; have b2 : w.cell? ⟨q, 2, none⟩ = some (.int .i64 i.o.node) := hB.cell 2; have b3 : w.cell? ⟨q, 3, none⟩ = some (.int .u64 (i.o.epoch : Int)) := hB.cell 3; have b4 : w.cell? ⟨q, 4, none⟩ = some (.int .u64 (i.o.seq : Int)) := hB.cell 4; have b5 : w.cell? ⟨q, 5, none⟩ = some (.int .i64 i.o.tr) := hB.cell 5; clear hI hB; go_simp) <;> (with_reducible rfl)
            try simp only [Act.put, List.setIfInBounds_toArray, List.set_cons_zero, List.set_cons_succ]
            refine wpAnyH_take (i := 2) (oi := ⟨some 32, _, _, _, _, _⟩) (v := ?_) rfl (by kernel_rfl) (by kernel_rfl) (by kernel_rfl) (fun _ _ _ h => h) (Or.inl ⟨by rfl, ?_⟩) (by assumption) ?_
            rotate_left 1
            · (intro w hSw; (try dsimp only at hSw); obtain ⟨hI, hB⟩ := hSw; have k0 : w.cell? ⟨Bx, O + k * 12, none⟩ = some (.int .i64 p.kind) := hI 0 _ rfl; have k2 : w.cell? ⟨Bx, O + k * 12 + 2, none⟩ = some (.int .i64 p.o.node) := hI 2 _ rfl; have k3 : w.cell? ⟨Bx, O + k * 12 + 3, none⟩ = some (.int .u64 (p.o.epoch : Int)) := hI 3 _ rfl; have k4 : w.cell? ⟨Bx, O + k * 12 + 4, none⟩ = some (.int .u64 (p.o.seq : Int)) := hI 4 _ rfl; have k5 : w.cell? ⟨Bx, O + k * 12 + 5, none⟩ = some (.int .i64 p.o.tr) := hI 5 _ rfl; have y3 : w.cell? ⟨Bx, O + k * 12 + 2 + 1, none⟩ = some (.int .u64 (p.o.epoch : Int)) := hI 3 _ rfl; have y4 : w.cell? ⟨Bx, O + k * 12 + 2 + 2, none⟩ = some (.int .u64 (p.o.seq : Int)) := hI 4 _ rfl; have y5 : w.cell? ⟨Bx, O + k * 12 + 2 + 3, none⟩ = some (.int .i64 p.o.tr) := hI 5 _ rfl; have b2 : w.cell? ⟨q, 2, none⟩ = some (.int .i64 i.o.node) := hB.cell 2; have b3 : w.cell? ⟨q, 3, none⟩ = some (.int .u64 (i.o.epoch : Int)) := hB.cell 3; have b4 : w.cell? ⟨q, 4, none⟩ = some (.int .u64 (i.o.seq : Int)) := hB.cell 4; have b5 : w.cell? ⟨q, 5, none⟩ = some (.int .i64 i.o.tr) := hB.cell 5; clear hI hB; go_simp) <;> (with_reducible rfl)
            try simp only [Act.put, List.setIfInBounds_toArray, List.set_cons_zero, List.set_cons_succ]
            refine wpAnyH_take (i := 3) (oi := ⟨some 33, _, _, _, _, _⟩) (v := ?_) rfl (by kernel_rfl) (by kernel_rfl) (by kernel_rfl) (fun _ _ _ h => h) (Or.inl ⟨by rfl, ?_⟩) (by assumption) ?_
            rotate_left 1
            · (intro w hSw; (try dsimp only at hSw); obtain ⟨hI, hB⟩ := hSw; have k0 : w.cell? ⟨Bx, O + k * 12, none⟩ = some (.int .i64 p.kind) := hI 0 _ rfl; have k2 : w.cell? ⟨Bx, O + k * 12 + 2, none⟩ = some (.int .i64 p.o.node) := hI 2 _ rfl; have k3 : w.cell? ⟨Bx, O + k * 12 + 3, none⟩ = some (.int .u64 (p.o.epoch : Int)) := hI 3 _ rfl; have k4 : w.cell? ⟨Bx, O + k * 12 + 4, none⟩ = some (.int .u64 (p.o.seq : Int)) := hI 4 _ rfl; have k5 : w.cell? ⟨Bx, O + k * 12 + 5, none⟩ = some (.int .i64 p.o.tr) := hI 5 _ rfl; have y3 : w.cell? ⟨Bx, O + k * 12 + 2 + 1, none⟩ = some (.int .u64 (p.o.epoch : Int)) := hI 3 _ rfl; have y4 : w.cell? ⟨Bx, O + k * 12 + 2 + 2, none⟩ = some (.int .u64 (p.o.seq : Int)) := hI 4 _ rfl; have y5 : w.cell? ⟨Bx, O + k * 12 + 2 + 3, none⟩ = some (.int .i64 p.o.tr) := hI 5 _ rfl; have b2 : w.cell? ⟨q, 2, none⟩ = some (.int .i64 i.o.node) := hB.cell 2; have b3 : w.cell? ⟨q, 3, none⟩ = some (.int .u64 (i.o.epoch : Int)) := hB.cell 3; have b4 : w.cell? ⟨q, 4, none⟩ = some (.int .u64 (i.o.seq : Int)) := hB.cell 4; have b5 : w.cell? ⟨q, 5, none⟩ = some (.int .i64 i.o.tr) := hB.cell 5; clear hI hB; go_simp) <;> (with_reducible rfl)
            try simp only [Act.put, List.setIfInBounds_toArray, List.set_cons_zero, List.set_cons_succ]
            refine wpAnyH_take (i := 4) (oi := ⟨some 34, _, _, _, _, _⟩) (v := ?_) rfl (by kernel_rfl) (by kernel_rfl) (by kernel_rfl) (fun _ _ _ h => h) (Or.inl ⟨by rfl, ?_⟩) (by assumption) ?_
            rotate_left 1
            · (intro w hSw; (try dsimp only at hSw); obtain ⟨hI, hB⟩ := hSw; have k0 : w.cell? ⟨Bx, O + k * 12, none⟩ = some (.int .i64 p.kind) := hI 0 _ rfl; have k2 : w.cell? ⟨Bx, O + k * 12 + 2, none⟩ = some (.int .i64 p.o.node) := hI 2 _ rfl; have k3 : w.cell? ⟨Bx, O + k * 12 + 3, none⟩ = some (.int .u64 (p.o.epoch : Int)) := hI 3 _ rfl; have k4 : w.cell? ⟨Bx, O + k * 12 + 4, none⟩ = some (.int .u64 (p.o.seq : Int)) := hI 4 _ rfl; have k5 : w.cell? ⟨Bx, O + k * 12 + 5, none⟩ = some (.int .i64 p.o.tr) := hI 5 _ rfl; have y3 : w.cell? ⟨Bx, O + k * 12 + 2 + 1, none⟩ = some (.int .u64 (p.o.epoch : Int)) := hI 3 _ rfl; have y4 : w.cell? ⟨Bx, O + k * 12 + 2 + 2, none⟩ = some (.int .u64 (p.o.seq : Int)) := hI 4 _ rfl; have y5 : w.cell? ⟨Bx, O + k * 12 + 2 + 3, none⟩ = some (.int .i64 p.o.tr) := hI 5 _ rfl; have b2 : w.cell? ⟨q, 2, none⟩ = some (.int .i64 i.o.node) := hB.cell 2; have b3 : w.cell? ⟨q, 3, none⟩ = some (.int .u64 (i.o.epoch : Int)) := hB.cell 3; have b4 : w.cell? ⟨q, 4, none⟩ = some (.int .u64 (i.o.seq : Int)) := hB.cell 4; have b5 : w.cell? ⟨q, 5, none⟩ = some (.int .i64 i.o.tr) := hB.cell 5; clear hI hB; go_simp) <;> (with_reducible rfl)
            try simp only [Act.put, List.setIfInBounds_toArray, List.set_cons_zero, List.set_cons_succ]
            refine wpAnyH_take (i := 5) (oi := ⟨some 35, _, _, _, _, _⟩) (v := ?_) rfl (by kernel_rfl) (by kernel_rfl) (by kernel_rfl) (fun _ _ _ h => h) (Or.inl ⟨by rfl, ?_⟩) (by assumption) ?_
            rotate_left 1
            · (intro w hSw; (try dsimp only at hSw); obtain ⟨hI, hB⟩ := hSw; have k0 : w.cell? ⟨Bx, O + k * 12, none⟩ = some (.int .i64 p.kind) := hI 0 _ rfl; have k2 : w.cell? ⟨Bx, O + k * 12 + 2, none⟩ = some (.int .i64 p.o.node) := hI 2 _ rfl; have k3 : w.cell? ⟨Bx, O + k * 12 + 3, none⟩ = some (.int .u64 (p.o.epoch : Int)) := hI 3 _ rfl; have k4 : w.cell? ⟨Bx, O + k * 12 + 4, none⟩ = some (.int .u64 (p.o.seq : Int)) := hI 4 _ rfl; have k5 : w.cell? ⟨Bx, O + k * 12 + 5, none⟩ = some (.int .i64 p.o.tr) := hI 5 _ rfl; have y3 : w.cell? ⟨Bx, O + k * 12 + 2 + 1, none⟩ = some (.int .u64 (p.o.epoch : Int)) := hI 3 _ rfl; have y4 : w.cell? ⟨Bx, O + k * 12 + 2 + 2, none⟩ = some (.int .u64 (p.o.seq : Int)) := hI 4 _ rfl; have y5 : w.cell? ⟨Bx, O + k * 12 + 2 + 3, none⟩ = some (.int .i64 p.o.tr) := hI 5 _ rfl; have b2 : w.cell? ⟨q, 2, none⟩ = some (.int .i64 i.o.node) := hB.cell 2; have b3 : w.cell? ⟨q, 3, none⟩ = some (.int .u64 (i.o.epoch : Int)) := hB.cell 3; have b4 : w.cell? ⟨q, 4, none⟩ = some (.int .u64 (i.o.seq : Int)) := hB.cell 4; have b5 : w.cell? ⟨q, 5, none⟩ = some (.int .i64 i.o.tr) := hB.cell 5; clear hI hB; go_simp) <;> (with_reducible rfl)
            try simp only [Act.put, List.setIfInBounds_toArray, List.set_cons_zero, List.set_cons_succ]
            refine wpAnyH_take (i := 6) (oi := ⟨some 36, _, _, _, _, _⟩) (v := ?_) rfl (by kernel_rfl) (by kernel_rfl) (by kernel_rfl) (fun _ _ _ h => h) (Or.inl ⟨by rfl, ?_⟩) (by assumption) ?_
            rotate_left 1
            · (intro w hSw; (try dsimp only at hSw); obtain ⟨hI, hB⟩ := hSw; have k0 : w.cell? ⟨Bx, O + k * 12, none⟩ = some (.int .i64 p.kind) := hI 0 _ rfl; have k2 : w.cell? ⟨Bx, O + k * 12 + 2, none⟩ = some (.int .i64 p.o.node) := hI 2 _ rfl; have k3 : w.cell? ⟨Bx, O + k * 12 + 3, none⟩ = some (.int .u64 (p.o.epoch : Int)) := hI 3 _ rfl; have k4 : w.cell? ⟨Bx, O + k * 12 + 4, none⟩ = some (.int .u64 (p.o.seq : Int)) := hI 4 _ rfl; have k5 : w.cell? ⟨Bx, O + k * 12 + 5, none⟩ = some (.int .i64 p.o.tr) := hI 5 _ rfl; have y3 : w.cell? ⟨Bx, O + k * 12 + 2 + 1, none⟩ = some (.int .u64 (p.o.epoch : Int)) := hI 3 _ rfl; have y4 : w.cell? ⟨Bx, O + k * 12 + 2 + 2, none⟩ = some (.int .u64 (p.o.seq : Int)) := hI 4 _ rfl; have y5 : w.cell? ⟨Bx, O + k * 12 + 2 + 3, none⟩ = some (.int .i64 p.o.tr) := hI 5 _ rfl; have b2 : w.cell? ⟨q, 2, none⟩ = some (.int .i64 i.o.node) := hB.cell 2; have b3 : w.cell? ⟨q, 3, none⟩ = some (.int .u64 (i.o.epoch : Int)) := hB.cell 3; have b4 : w.cell? ⟨q, 4, none⟩ = some (.int .u64 (i.o.seq : Int)) := hB.cell 4; have b5 : w.cell? ⟨q, 5, none⟩ = some (.int .i64 i.o.tr) := hB.cell 5; clear hI hB; go_simp) <;> (with_reducible rfl)
            try simp only [Act.put, List.setIfInBounds_toArray, List.set_cons_zero, List.set_cons_succ]
            refine wpAnyH_take (i := 7) (oi := ⟨some 37, _, _, _, _, _⟩) (v := ?_) rfl (by kernel_rfl) (by kernel_rfl) (by kernel_rfl) (fun _ _ _ h => h) (Or.inl ⟨by rfl, ?_⟩) (by assumption) ?_
            rotate_left 1
            · (intro w hSw; (try dsimp only at hSw); obtain ⟨hI, hB⟩ := hSw; have k0 : w.cell? ⟨Bx, O + k * 12, none⟩ = some (.int .i64 p.kind) := hI 0 _ rfl; have k2 : w.cell? ⟨Bx, O + k * 12 + 2, none⟩ = some (.int .i64 p.o.node) := hI 2 _ rfl; have k3 : w.cell? ⟨Bx, O + k * 12 + 3, none⟩ = some (.int .u64 (p.o.epoch : Int)) := hI 3 _ rfl; have k4 : w.cell? ⟨Bx, O + k * 12 + 4, none⟩ = some (.int .u64 (p.o.seq : Int)) := hI 4 _ rfl; have k5 : w.cell? ⟨Bx, O + k * 12 + 5, none⟩ = some (.int .i64 p.o.tr) := hI 5 _ rfl; have y3 : w.cell? ⟨Bx, O + k * 12 + 2 + 1, none⟩ = some (.int .u64 (p.o.epoch : Int)) := hI 3 _ rfl; have y4 : w.cell? ⟨Bx, O + k * 12 + 2 + 2, none⟩ = some (.int .u64 (p.o.seq : Int)) := hI 4 _ rfl; have y5 : w.cell? ⟨Bx, O + k * 12 + 2 + 3, none⟩ = some (.int .i64 p.o.tr) := hI 5 _ rfl; have b2 : w.cell? ⟨q, 2, none⟩ = some (.int .i64 i.o.node) := hB.cell 2; have b3 : w.cell? ⟨q, 3, none⟩ = some (.int .u64 (i.o.epoch : Int)) := hB.cell 3; have b4 : w.cell? ⟨q, 4, none⟩ = some (.int .u64 (i.o.seq : Int)) := hB.cell 4; have b5 : w.cell? ⟨q, 5, none⟩ = some (.int .i64 i.o.tr) := hB.cell 5; clear hI hB; go_simp) <;> (with_reducible rfl)
            try simp only [Act.put, List.setIfInBounds_toArray, List.set_cons_zero, List.set_cons_succ]
            refine wpAnyH_take (i := 8) (oi := ⟨some 38, _, _, _, _, _⟩) (v := ?_) rfl (by kernel_rfl) (by kernel_rfl) (by kernel_rfl) (fun _ _ _ h => h) (Or.inl ⟨by rfl, ?_⟩) (by assumption) ?_
            rotate_left 1
            · (intro w hSw; (try dsimp only at hSw); obtain ⟨hI, hB⟩ := hSw; have k0 : w.cell? ⟨Bx, O + k * 12, none⟩ = some (.int .i64 p.kind) := hI 0 _ rfl; have k2 : w.cell? ⟨Bx, O + k * 12 + 2, none⟩ = some (.int .i64 p.o.node) := hI 2 _ rfl; have k3 : w.cell? ⟨Bx, O + k * 12 + 3, none⟩ = some (.int .u64 (p.o.epoch : Int)) := hI 3 _ rfl; have k4 : w.cell? ⟨Bx, O + k * 12 + 4, none⟩ = some (.int .u64 (p.o.seq : Int)) := hI 4 _ rfl; have k5 : w.cell? ⟨Bx, O + k * 12 + 5, none⟩ = some (.int .i64 p.o.tr) := hI 5 _ rfl; have y3 : w.cell? ⟨Bx, O + k * 12 + 2 + 1, none⟩ = some (.int .u64 (p.o.epoch : Int)) := hI 3 _ rfl; have y4 : w.cell? ⟨Bx, O + k * 12 + 2 + 2, none⟩ = some (.int .u64 (p.o.seq : Int)) := hI 4 _ rfl; have y5 : w.cell? ⟨Bx, O + k * 12 + 2 + 3, none⟩ = some (.int .i64 p.o.tr) := hI 5 _ rfl; have b2 : w.cell? ⟨q, 2, none⟩ = some (.int .i64 i.o.node) := hB.cell 2; have b3 : w.cell? ⟨q, 3, none⟩ = some (.int .u64 (i.o.epoch : Int)) := hB.cell 3; have b4 : w.cell? ⟨q, 4, none⟩ = some (.int .u64 (i.o.seq : Int)) := hB.cell 4; have b5 : w.cell? ⟨q, 5, none⟩ = some (.int .i64 i.o.tr) := hB.cell 5; clear hI hB; go_simp) <;> (with_reducible rfl)
            try simp only [Act.put, List.setIfInBounds_toArray, List.set_cons_zero, List.set_cons_succ]
            refine wpAnyH_take (i := 9) (oi := ⟨some 39, _, _, _, _, _⟩) (v := ?_) rfl (by kernel_rfl) (by kernel_rfl) (by kernel_rfl) (fun _ _ _ h => h) (Or.inl ⟨by rfl, ?_⟩) (by assumption) ?_
            rotate_left 1
            · (intro w hSw; (try dsimp only at hSw); obtain ⟨hI, hB⟩ := hSw; have k0 : w.cell? ⟨Bx, O + k * 12, none⟩ = some (.int .i64 p.kind) := hI 0 _ rfl; have k2 : w.cell? ⟨Bx, O + k * 12 + 2, none⟩ = some (.int .i64 p.o.node) := hI 2 _ rfl; have k3 : w.cell? ⟨Bx, O + k * 12 + 3, none⟩ = some (.int .u64 (p.o.epoch : Int)) := hI 3 _ rfl; have k4 : w.cell? ⟨Bx, O + k * 12 + 4, none⟩ = some (.int .u64 (p.o.seq : Int)) := hI 4 _ rfl; have k5 : w.cell? ⟨Bx, O + k * 12 + 5, none⟩ = some (.int .i64 p.o.tr) := hI 5 _ rfl; have y3 : w.cell? ⟨Bx, O + k * 12 + 2 + 1, none⟩ = some (.int .u64 (p.o.epoch : Int)) := hI 3 _ rfl; have y4 : w.cell? ⟨Bx, O + k * 12 + 2 + 2, none⟩ = some (.int .u64 (p.o.seq : Int)) := hI 4 _ rfl; have y5 : w.cell? ⟨Bx, O + k * 12 + 2 + 3, none⟩ = some (.int .i64 p.o.tr) := hI 5 _ rfl; have b2 : w.cell? ⟨q, 2, none⟩ = some (.int .i64 i.o.node) := hB.cell 2; have b3 : w.cell? ⟨q, 3, none⟩ = some (.int .u64 (i.o.epoch : Int)) := hB.cell 3; have b4 : w.cell? ⟨q, 4, none⟩ = some (.int .u64 (i.o.seq : Int)) := hB.cell 4; have b5 : w.cell? ⟨q, 5, none⟩ = some (.int .i64 i.o.tr) := hB.cell 5; clear hI hB; go_simp) <;> (with_reducible rfl)
            try simp only [Act.put, List.setIfInBounds_toArray, List.set_cons_zero, List.set_cons_succ]
            refine wpAnyH_take (i := 10) (oi := ⟨some 40, _, _, _, _, _⟩) (v := ?_) rfl (by kernel_rfl) (by kernel_rfl) (by kernel_rfl) (fun _ _ _ h => h) (Or.inl ⟨by rfl, ?_⟩) (by assumption) ?_
            rotate_left 1
            · (intro w hSw; (try dsimp only at hSw); obtain ⟨hI, hB⟩ := hSw; have k0 : w.cell? ⟨Bx, O + k * 12, none⟩ = some (.int .i64 p.kind) := hI 0 _ rfl; have k2 : w.cell? ⟨Bx, O + k * 12 + 2, none⟩ = some (.int .i64 p.o.node) := hI 2 _ rfl; have k3 : w.cell? ⟨Bx, O + k * 12 + 3, none⟩ = some (.int .u64 (p.o.epoch : Int)) := hI 3 _ rfl; have k4 : w.cell? ⟨Bx, O + k * 12 + 4, none⟩ = some (.int .u64 (p.o.seq : Int)) := hI 4 _ rfl; have k5 : w.cell? ⟨Bx, O + k * 12 + 5, none⟩ = some (.int .i64 p.o.tr) := hI 5 _ rfl; have y3 : w.cell? ⟨Bx, O + k * 12 + 2 + 1, none⟩ = some (.int .u64 (p.o.epoch : Int)) := hI 3 _ rfl; have y4 : w.cell? ⟨Bx, O + k * 12 + 2 + 2, none⟩ = some (.int .u64 (p.o.seq : Int)) := hI 4 _ rfl; have y5 : w.cell? ⟨Bx, O + k * 12 + 2 + 3, none⟩ = some (.int .i64 p.o.tr) := hI 5 _ rfl; have b2 : w.cell? ⟨q, 2, none⟩ = some (.int .i64 i.o.node) := hB.cell 2; have b3 : w.cell? ⟨q, 3, none⟩ = some (.int .u64 (i.o.epoch : Int)) := hB.cell 3; have b4 : w.cell? ⟨q, 4, none⟩ = some (.int .u64 (i.o.seq : Int)) := hB.cell 4; have b5 : w.cell? ⟨q, 5, none⟩ = some (.int .i64 i.o.tr) := hB.cell 5; clear hI hB; go_simp) <;> (with_reducible rfl)
            try simp only [Act.put, List.setIfInBounds_toArray, List.set_cons_zero, List.set_cons_succ]
            refine wpAnyH_take (i := 11) (oi := ⟨some 41, _, _, _, _, _⟩) (v := ?_) rfl (by kernel_rfl) (by kernel_rfl) (by kernel_rfl) (fun _ _ _ h => h) (Or.inl ⟨by rfl, ?_⟩) (by assumption) ?_
            rotate_left 1
            · (intro w hSw; (try dsimp only at hSw); obtain ⟨hI, hB⟩ := hSw; have k0 : w.cell? ⟨Bx, O + k * 12, none⟩ = some (.int .i64 p.kind) := hI 0 _ rfl; have k2 : w.cell? ⟨Bx, O + k * 12 + 2, none⟩ = some (.int .i64 p.o.node) := hI 2 _ rfl; have k3 : w.cell? ⟨Bx, O + k * 12 + 3, none⟩ = some (.int .u64 (p.o.epoch : Int)) := hI 3 _ rfl; have k4 : w.cell? ⟨Bx, O + k * 12 + 4, none⟩ = some (.int .u64 (p.o.seq : Int)) := hI 4 _ rfl; have k5 : w.cell? ⟨Bx, O + k * 12 + 5, none⟩ = some (.int .i64 p.o.tr) := hI 5 _ rfl; have y3 : w.cell? ⟨Bx, O + k * 12 + 2 + 1, none⟩ = some (.int .u64 (p.o.epoch : Int)) := hI 3 _ rfl; have y4 : w.cell? ⟨Bx, O + k * 12 + 2 + 2, none⟩ = some (.int .u64 (p.o.seq : Int)) := hI 4 _ rfl; have y5 : w.cell? ⟨Bx, O + k * 12 + 2 + 3, none⟩ = some (.int .i64 p.o.tr) := hI 5 _ rfl; have b2 : w.cell? ⟨q, 2, none⟩ = some (.int .i64 i.o.node) := hB.cell 2; have b3 : w.cell? ⟨q, 3, none⟩ = some (.int .u64 (i.o.epoch : Int)) := hB.cell 3; have b4 : w.cell? ⟨q, 4, none⟩ = some (.int .u64 (i.o.seq : Int)) := hB.cell 4; have b5 : w.cell? ⟨q, 5, none⟩ = some (.int .i64 i.o.tr) := hB.cell 5; clear hI hB; go_simp) <;> (with_reducible rfl)
            try simp only [Act.put, List.setIfInBounds_toArray, List.set_cons_zero, List.set_cons_succ]
            refine wpAnyH_take (i := 12) (oi := ⟨some 42, _, _, _, _, _⟩) (v := ?_) rfl (by kernel_rfl) (by kernel_rfl) (by kernel_rfl) (fun _ _ _ h => h) (Or.inl ⟨by rfl, ?_⟩) (by assumption) ?_
            rotate_left 1
            · (intro w hSw; (try dsimp only at hSw); obtain ⟨hI, hB⟩ := hSw; have k0 : w.cell? ⟨Bx, O + k * 12, none⟩ = some (.int .i64 p.kind) := hI 0 _ rfl; have k2 : w.cell? ⟨Bx, O + k * 12 + 2, none⟩ = some (.int .i64 p.o.node) := hI 2 _ rfl; have k3 : w.cell? ⟨Bx, O + k * 12 + 3, none⟩ = some (.int .u64 (p.o.epoch : Int)) := hI 3 _ rfl; have k4 : w.cell? ⟨Bx, O + k * 12 + 4, none⟩ = some (.int .u64 (p.o.seq : Int)) := hI 4 _ rfl; have k5 : w.cell? ⟨Bx, O + k * 12 + 5, none⟩ = some (.int .i64 p.o.tr) := hI 5 _ rfl; have y3 : w.cell? ⟨Bx, O + k * 12 + 2 + 1, none⟩ = some (.int .u64 (p.o.epoch : Int)) := hI 3 _ rfl; have y4 : w.cell? ⟨Bx, O + k * 12 + 2 + 2, none⟩ = some (.int .u64 (p.o.seq : Int)) := hI 4 _ rfl; have y5 : w.cell? ⟨Bx, O + k * 12 + 2 + 3, none⟩ = some (.int .i64 p.o.tr) := hI 5 _ rfl; have b2 : w.cell? ⟨q, 2, none⟩ = some (.int .i64 i.o.node) := hB.cell 2; have b3 : w.cell? ⟨q, 3, none⟩ = some (.int .u64 (i.o.epoch : Int)) := hB.cell 3; have b4 : w.cell? ⟨q, 4, none⟩ = some (.int .u64 (i.o.seq : Int)) := hB.cell 4; have b5 : w.cell? ⟨q, 5, none⟩ = some (.int .i64 i.o.tr) := hB.cell 5; clear hI hB; go_simp) <;> (with_reducible rfl)
            try simp only [Act.put, List.setIfInBounds_toArray, List.set_cons_zero, List.set_cons_succ]
            refine wpAnyH_take (i := 13) (oi := ⟨some 43, _, _, _, _, _⟩) (v := ?_) rfl (by kernel_rfl) (by kernel_rfl) (by kernel_rfl) (fun _ _ _ h => h) (Or.inl ⟨by rfl, ?_⟩) (by assumption) ?_
            rotate_left 1
            · (intro w hSw; (try dsimp only at hSw); obtain ⟨hI, hB⟩ := hSw; have k0 : w.cell? ⟨Bx, O + k * 12, none⟩ = some (.int .i64 p.kind) := hI 0 _ rfl; have k2 : w.cell? ⟨Bx, O + k * 12 + 2, none⟩ = some (.int .i64 p.o.node) := hI 2 _ rfl; have k3 : w.cell? ⟨Bx, O + k * 12 + 3, none⟩ = some (.int .u64 (p.o.epoch : Int)) := hI 3 _ rfl; have k4 : w.cell? ⟨Bx, O + k * 12 + 4, none⟩ = some (.int .u64 (p.o.seq : Int)) := hI 4 _ rfl; have k5 : w.cell? ⟨Bx, O + k * 12 + 5, none⟩ = some (.int .i64 p.o.tr) := hI 5 _ rfl; have y3 : w.cell? ⟨Bx, O + k * 12 + 2 + 1, none⟩ = some (.int .u64 (p.o.epoch : Int)) := hI 3 _ rfl; have y4 : w.cell? ⟨Bx, O + k * 12 + 2 + 2, none⟩ = some (.int .u64 (p.o.seq : Int)) := hI 4 _ rfl; have y5 : w.cell? ⟨Bx, O + k * 12 + 2 + 3, none⟩ = some (.int .i64 p.o.tr) := hI 5 _ rfl; have b2 : w.cell? ⟨q, 2, none⟩ = some (.int .i64 i.o.node) := hB.cell 2; have b3 : w.cell? ⟨q, 3, none⟩ = some (.int .u64 (i.o.epoch : Int)) := hB.cell 3; have b4 : w.cell? ⟨q, 4, none⟩ = some (.int .u64 (i.o.seq : Int)) := hB.cell 4; have b5 : w.cell? ⟨q, 5, none⟩ = some (.int .i64 i.o.tr) := hB.cell 5; clear hI hB; go_simp) <;> (with_reducible rfl)
            try simp only [Act.put, List.setIfInBounds_toArray, List.set_cons_zero, List.set_cons_succ]
            refine wpAnyH_take (i := 14) (oi := ⟨some 44, _, _, _, _, _⟩) (v := ?_) rfl (by kernel_rfl) (by kernel_rfl) (by kernel_rfl) (fun _ _ _ h => h) (Or.inl ⟨by rfl, ?_⟩) (by assumption) ?_
            rotate_left 1
            · (intro w hSw; (try dsimp only at hSw); obtain ⟨hI, hB⟩ := hSw; have k0 : w.cell? ⟨Bx, O + k * 12, none⟩ = some (.int .i64 p.kind) := hI 0 _ rfl; have k2 : w.cell? ⟨Bx, O + k * 12 + 2, none⟩ = some (.int .i64 p.o.node) := hI 2 _ rfl; have k3 : w.cell? ⟨Bx, O + k * 12 + 3, none⟩ = some (.int .u64 (p.o.epoch : Int)) := hI 3 _ rfl; have k4 : w.cell? ⟨Bx, O + k * 12 + 4, none⟩ = some (.int .u64 (p.o.seq : Int)) := hI 4 _ rfl; have k5 : w.cell? ⟨Bx, O + k * 12 + 5, none⟩ = some (.int .i64 p.o.tr) := hI 5 _ rfl; have y3 : w.cell? ⟨Bx, O + k * 12 + 2 + 1, none⟩ = some (.int .u64 (p.o.epoch : Int)) := hI 3 _ rfl; have y4 : w.cell? ⟨Bx, O + k * 12 + 2 + 2, none⟩ = some (.int .u64 (p.o.seq : Int)) := hI 4 _ rfl; have y5 : w.cell? ⟨Bx, O + k * 12 + 2 + 3, none⟩ = some (.int .i64 p.o.tr) := hI 5 _ rfl; have b2 : w.cell? ⟨q, 2, none⟩ = some (.int .i64 i.o.node) := hB.cell 2; have b3 : w.cell? ⟨q, 3, none⟩ = some (.int .u64 (i.o.epoch : Int)) := hB.cell 3; have b4 : w.cell? ⟨q, 4, none⟩ = some (.int .u64 (i.o.seq : Int)) := hB.cell 4; have b5 : w.cell? ⟨q, 5, none⟩ = some (.int .i64 i.o.tr) := hB.cell 5; clear hI hB; go_simp) <;> (with_reducible rfl)
            try simp only [Act.put, List.setIfInBounds_toArray, List.set_cons_zero, List.set_cons_succ]
            refine wpAnyH_take (i := 15) (oi := ⟨some 45, _, _, _, _, _⟩) (v := ?_) rfl (by kernel_rfl) (by kernel_rfl) (by kernel_rfl) (fun _ _ _ h => h) (Or.inl ⟨by rfl, ?_⟩) (by assumption) ?_
            rotate_left 1
            · (intro w hSw; (try dsimp only at hSw); obtain ⟨hI, hB⟩ := hSw; have k0 : w.cell? ⟨Bx, O + k * 12, none⟩ = some (.int .i64 p.kind) := hI 0 _ rfl; have k2 : w.cell? ⟨Bx, O + k * 12 + 2, none⟩ = some (.int .i64 p.o.node) := hI 2 _ rfl; have k3 : w.cell? ⟨Bx, O + k * 12 + 3, none⟩ = some (.int .u64 (p.o.epoch : Int)) := hI 3 _ rfl; have k4 : w.cell? ⟨Bx, O + k * 12 + 4, none⟩ = some (.int .u64 (p.o.seq : Int)) := hI 4 _ rfl; have k5 : w.cell? ⟨Bx, O + k * 12 + 5, none⟩ = some (.int .i64 p.o.tr) := hI 5 _ rfl; have y3 : w.cell? ⟨Bx, O + k * 12 + 2 + 1, none⟩ = some (.int .u64 (p.o.epoch : Int)) := hI 3 _ rfl; have y4 : w.cell? ⟨Bx, O + k * 12 + 2 + 2, none⟩ = some (.int .u64 (p.o.seq : Int)) := hI 4 _ rfl; have y5 : w.cell? ⟨Bx, O + k * 12 + 2 + 3, none⟩ = some (.int .i64 p.o.tr) := hI 5 _ rfl; have b2 : w.cell? ⟨q, 2, none⟩ = some (.int .i64 i.o.node) := hB.cell 2; have b3 : w.cell? ⟨q, 3, none⟩ = some (.int .u64 (i.o.epoch : Int)) := hB.cell 3; have b4 : w.cell? ⟨q, 4, none⟩ = some (.int .u64 (i.o.seq : Int)) := hB.cell 4; have b5 : w.cell? ⟨q, 5, none⟩ = some (.int .i64 i.o.tr) := hB.cell 5; clear hI hB; go_simp) <;> (with_reducible rfl)
            try simp only [Act.put, List.setIfInBounds_toArray, List.set_cons_zero, List.set_cons_succ]
            refine wpAnyH_take (i := 16) (oi := ⟨some 46, _, _, _, _, _⟩) (v := ?_) rfl (by kernel_rfl) (by kernel_rfl) (by kernel_rfl) (fun _ _ _ h => h) (Or.inl ⟨by rfl, ?_⟩) (by assumption) ?_
            rotate_left 1
            · (intro w hSw; (try dsimp only at hSw); obtain ⟨hI, hB⟩ := hSw; have k0 : w.cell? ⟨Bx, O + k * 12, none⟩ = some (.int .i64 p.kind) := hI 0 _ rfl; have k2 : w.cell? ⟨Bx, O + k * 12 + 2, none⟩ = some (.int .i64 p.o.node) := hI 2 _ rfl; have k3 : w.cell? ⟨Bx, O + k * 12 + 3, none⟩ = some (.int .u64 (p.o.epoch : Int)) := hI 3 _ rfl; have k4 : w.cell? ⟨Bx, O + k * 12 + 4, none⟩ = some (.int .u64 (p.o.seq : Int)) := hI 4 _ rfl; have k5 : w.cell? ⟨Bx, O + k * 12 + 5, none⟩ = some (.int .i64 p.o.tr) := hI 5 _ rfl; have y3 : w.cell? ⟨Bx, O + k * 12 + 2 + 1, none⟩ = some (.int .u64 (p.o.epoch : Int)) := hI 3 _ rfl; have y4 : w.cell? ⟨Bx, O + k * 12 + 2 + 2, none⟩ = some (.int .u64 (p.o.seq : Int)) := hI 4 _ rfl; have y5 : w.cell? ⟨Bx, O + k * 12 + 2 + 3, none⟩ = some (.int .i64 p.o.tr) := hI 5 _ rfl; have b2 : w.cell? ⟨q, 2, none⟩ = some (.int .i64 i.o.node) := hB.cell 2; have b3 : w.cell? ⟨q, 3, none⟩ = some (.int .u64 (i.o.epoch : Int)) := hB.cell 3; have b4 : w.cell? ⟨q, 4, none⟩ = some (.int .u64 (i.o.seq : Int)) := hB.cell 4; have b5 : w.cell? ⟨q, 5, none⟩ = some (.int .i64 i.o.tr) := hB.cell 5; clear hI hB; go_simp) <;> (with_reducible rfl)
            try simp only [Act.put, List.setIfInBounds_toArray, List.set_cons_zero, List.set_cons_succ]
            refine wpAnyH_take (i := 17) (oi := ⟨some 47, _, _, _, _, _⟩) (v := ?_) rfl (by kernel_rfl) (by kernel_rfl) (by kernel_rfl) (fun _ _ _ h => h) (Or.inl ⟨by rfl, ?_⟩) (by assumption) ?_
            rotate_left 1
            · (intro w hSw; (try dsimp only at hSw); obtain ⟨hI, hB⟩ := hSw; have k0 : w.cell? ⟨Bx, O + k * 12, none⟩ = some (.int .i64 p.kind) := hI 0 _ rfl; have k2 : w.cell? ⟨Bx, O + k * 12 + 2, none⟩ = some (.int .i64 p.o.node) := hI 2 _ rfl; have k3 : w.cell? ⟨Bx, O + k * 12 + 3, none⟩ = some (.int .u64 (p.o.epoch : Int)) := hI 3 _ rfl; have k4 : w.cell? ⟨Bx, O + k * 12 + 4, none⟩ = some (.int .u64 (p.o.seq : Int)) := hI 4 _ rfl; have k5 : w.cell? ⟨Bx, O + k * 12 + 5, none⟩ = some (.int .i64 p.o.tr) := hI 5 _ rfl; have y3 : w.cell? ⟨Bx, O + k * 12 + 2 + 1, none⟩ = some (.int .u64 (p.o.epoch : Int)) := hI 3 _ rfl; have y4 : w.cell? ⟨Bx, O + k * 12 + 2 + 2, none⟩ = some (.int .u64 (p.o.seq : Int)) := hI 4 _ rfl; have y5 : w.cell? ⟨Bx, O + k * 12 + 2 + 3, none⟩ = some (.int .i64 p.o.tr) := hI 5 _ rfl; have b2 : w.cell? ⟨q, 2, none⟩ = some (.int .i64 i.o.node) := hB.cell 2; have b3 : w.cell? ⟨q, 3, none⟩ = some (.int .u64 (i.o.epoch : Int)) := hB.cell 3; have b4 : w.cell? ⟨q, 4, none⟩ = some (.int .u64 (i.o.seq : Int)) := hB.cell 4; have b5 : w.cell? ⟨q, 5, none⟩ = some (.int .i64 i.o.tr) := hB.cell 5; clear hI hB; go_simp) <;> (with_reducible rfl)
            try simp only [Act.put, List.setIfInBounds_toArray, List.set_cons_zero, List.set_cons_succ]
            refine wpAnyH_take (i := 18) (oi := ⟨some 48, _, _, _, _, _⟩) (v := ?_) rfl (by kernel_rfl) (by kernel_rfl) (by kernel_rfl) (fun _ _ _ h => h) (Or.inl ⟨by rfl, ?_⟩) (by assumption) ?_
            rotate_left 1
            · (intro w hSw; (try dsimp only at hSw); obtain ⟨hI, hB⟩ := hSw; have k0 : w.cell? ⟨Bx, O + k * 12, none⟩ = some (.int .i64 p.kind) := hI 0 _ rfl; have k2 : w.cell? ⟨Bx, O + k * 12 + 2, none⟩ = some (.int .i64 p.o.node) := hI 2 _ rfl; have k3 : w.cell? ⟨Bx, O + k * 12 + 3, none⟩ = some (.int .u64 (p.o.epoch : Int)) := hI 3 _ rfl; have k4 : w.cell? ⟨Bx, O + k * 12 + 4, none⟩ = some (.int .u64 (p.o.seq : Int)) := hI 4 _ rfl; have k5 : w.cell? ⟨Bx, O + k * 12 + 5, none⟩ = some (.int .i64 p.o.tr) := hI 5 _ rfl; have y3 : w.cell? ⟨Bx, O + k * 12 + 2 + 1, none⟩ = some (.int .u64 (p.o.epoch : Int)) := hI 3 _ rfl; have y4 : w.cell? ⟨Bx, O + k * 12 + 2 + 2, none⟩ = some (.int .u64 (p.o.seq : Int)) := hI 4 _ rfl; have y5 : w.cell? ⟨Bx, O + k * 12 + 2 + 3, none⟩ = some (.int .i64 p.o.tr) := hI 5 _ rfl; have b2 : w.cell? ⟨q, 2, none⟩ = some (.int .i64 i.o.node) := hB.cell 2; have b3 : w.cell? ⟨q, 3, none⟩ = some (.int .u64 (i.o.epoch : Int)) := hB.cell 3; have b4 : w.cell? ⟨q, 4, none⟩ = some (.int .u64 (i.o.seq : Int)) := hB.cell 4; have b5 : w.cell? ⟨q, 5, none⟩ = some (.int .i64 i.o.tr) := hB.cell 5; clear hI hB; go_simp) <;> (with_reducible rfl)
            try simp only [Act.put, List.setIfInBounds_toArray, List.set_cons_zero, List.set_cons_succ]
            refine wpAnyH_take (i := 19) (oi := ⟨some 49, _, _, _, _, _⟩) (v := ?_) rfl (by kernel_rfl) (by kernel_rfl) (by kernel_rfl) (fun _ _ _ h => h) (Or.inl ⟨by rfl, ?_⟩) (by assumption) ?_
            rotate_left 1
            · (intro w hSw; (try dsimp only at hSw); obtain ⟨hI, hB⟩ := hSw; have k0 : w.cell? ⟨Bx, O + k * 12, none⟩ = some (.int .i64 p.kind) := hI 0 _ rfl; have k2 : w.cell? ⟨Bx, O + k * 12 + 2, none⟩ = some (.int .i64 p.o.node) := hI 2 _ rfl; have k3 : w.cell? ⟨Bx, O + k * 12 + 3, none⟩ = some (.int .u64 (p.o.epoch : Int)) := hI 3 _ rfl; have k4 : w.cell? ⟨Bx, O + k * 12 + 4, none⟩ = some (.int .u64 (p.o.seq : Int)) := hI 4 _ rfl; have k5 : w.cell? ⟨Bx, O + k * 12 + 5, none⟩ = some (.int .i64 p.o.tr) := hI 5 _ rfl; have y3 : w.cell? ⟨Bx, O + k * 12 + 2 + 1, none⟩ = some (.int .u64 (p.o.epoch : Int)) := hI 3 _ rfl; have y4 : w.cell? ⟨Bx, O + k * 12 + 2 + 2, none⟩ = some (.int .u64 (p.o.seq : Int)) := hI 4 _ rfl; have y5 : w.cell? ⟨Bx, O + k * 12 + 2 + 3, none⟩ = some (.int .i64 p.o.tr) := hI 5 _ rfl; have b2 : w.cell? ⟨q, 2, none⟩ = some (.int .i64 i.o.node) := hB.cell 2; have b3 : w.cell? ⟨q, 3, none⟩ = some (.int .u64 (i.o.epoch : Int)) := hB.cell 3; have b4 : w.cell? ⟨q, 4, none⟩ = some (.int .u64 (i.o.seq : Int)) := hB.cell 4; have b5 : w.cell? ⟨q, 5, none⟩ = some (.int .i64 i.o.tr) := hB.cell 5; clear hI hB; go_simp) <;> (with_reducible rfl)
            try simp only [Act.put, List.setIfInBounds_toArray, List.set_cons_zero, List.set_cons_succ]
            refine wpAnyH_take (i := 20) (oi := ⟨some 50, _, _, _, _, _⟩) (v := ?_) rfl (by kernel_rfl) (by kernel_rfl) (by kernel_rfl) (fun _ _ _ h => h) (Or.inl ⟨by rfl, ?_⟩) (by assumption) ?_
            rotate_left 1
            · (intro w hSw; (try dsimp only at hSw); obtain ⟨hI, hB⟩ := hSw; have k0 : w.cell? ⟨Bx, O + k * 12, none⟩ = some (.int .i64 p.kind) := hI 0 _ rfl; have k2 : w.cell? ⟨Bx, O + k * 12 + 2, none⟩ = some (.int .i64 p.o.node) := hI 2 _ rfl; have k3 : w.cell? ⟨Bx, O + k * 12 + 3, none⟩ = some (.int .u64 (p.o.epoch : Int)) := hI 3 _ rfl; have k4 : w.cell? ⟨Bx, O + k * 12 + 4, none⟩ = some (.int .u64 (p.o.seq : Int)) := hI 4 _ rfl; have k5 : w.cell? ⟨Bx, O + k * 12 + 5, none⟩ = some (.int .i64 p.o.tr) := hI 5 _ rfl; have y3 : w.cell? ⟨Bx, O + k * 12 + 2 + 1, none⟩ = some (.int .u64 (p.o.epoch : Int)) := hI 3 _ rfl; have y4 : w.cell? ⟨Bx, O + k * 12 + 2 + 2, none⟩ = some (.int .u64 (p.o.seq : Int)) := hI 4 _ rfl; have y5 : w.cell? ⟨Bx, O + k * 12 + 2 + 3, none⟩ = some (.int .i64 p.o.tr) := hI 5 _ rfl; have b2 : w.cell? ⟨q, 2, none⟩ = some (.int .i64 i.o.node) := hB.cell 2; have b3 : w.cell? ⟨q, 3, none⟩ = some (.int .u64 (i.o.epoch : Int)) := hB.cell 3; have b4 : w.cell? ⟨q, 4, none⟩ = some (.int .u64 (i.o.seq : Int)) := hB.cell 4; have b5 : w.cell? ⟨q, 5, none⟩ = some (.int .i64 i.o.tr) := hB.cell 5; clear hI hB; go_simp) <;> (with_reducible rfl)
            try simp only [Act.put, List.setIfInBounds_toArray, List.set_cons_zero, List.set_cons_succ]
            refine wpAnyH_take (i := 21) (oi := ⟨some 51, _, _, _, _, _⟩) (v := ?_) rfl (by kernel_rfl) (by kernel_rfl) (by kernel_rfl) (fun _ _ _ h => h) (Or.inl ⟨by rfl, ?_⟩) (by assumption) ?_
            rotate_left 1
            · (intro w hSw; (try dsimp only at hSw); obtain ⟨hI, hB⟩ := hSw; have k0 : w.cell? ⟨Bx, O + k * 12, none⟩ = some (.int .i64 p.kind) := hI 0 _ rfl; have k2 : w.cell? ⟨Bx, O + k * 12 + 2, none⟩ = some (.int .i64 p.o.node) := hI 2 _ rfl; have k3 : w.cell? ⟨Bx, O + k * 12 + 3, none⟩ = some (.int .u64 (p.o.epoch : Int)) := hI 3 _ rfl; have k4 : w.cell? ⟨Bx, O + k * 12 + 4, none⟩ = some (.int .u64 (p.o.seq : Int)) := hI 4 _ rfl; have k5 : w.cell? ⟨Bx, O + k * 12 + 5, none⟩ = some (.int .i64 p.o.tr) := hI 5 _ rfl; have y3 : w.cell? ⟨Bx, O + k * 12 + 2 + 1, none⟩ = some (.int .u64 (p.o.epoch : Int)) := hI 3 _ rfl; have y4 : w.cell? ⟨Bx, O + k * 12 + 2 + 2, none⟩ = some (.int .u64 (p.o.seq : Int)) := hI 4 _ rfl; have y5 : w.cell? ⟨Bx, O + k * 12 + 2 + 3, none⟩ = some (.int .i64 p.o.tr) := hI 5 _ rfl; have b2 : w.cell? ⟨q, 2, none⟩ = some (.int .i64 i.o.node) := hB.cell 2; have b3 : w.cell? ⟨q, 3, none⟩ = some (.int .u64 (i.o.epoch : Int)) := hB.cell 3; have b4 : w.cell? ⟨q, 4, none⟩ = some (.int .u64 (i.o.seq : Int)) := hB.cell 4; have b5 : w.cell? ⟨q, 5, none⟩ = some (.int .i64 i.o.tr) := hB.cell 5; clear hI hB; go_simp) <;> (with_reducible rfl)
            try simp only [Act.put, List.setIfInBounds_toArray, List.set_cons_zero, List.set_cons_succ]
            refine wpAnyH_ready (rs := [22]) (by kernel_rfl) (by simp) ?_
            refine AllReadyH.cons (o := ⟨some 52, _, _, _, _, _⟩) rfl (fun K hK => ?_) AllReadyH.nil
            go_simp
            go_at_call 15
            refine HCJ.out.mono ?_
            clear HCJ hHeld
            rintro e w5 ⟨he, hf5⟩
            obtain rfl : e = .returned (.bool true) := he
            have HF5 : Hid (Fr NoBlk wr w5) := (Fr.refl _ _).drew.trans hf5
            clear hf5
            refine hK.out _ _ ?_ (fun hHeld => ?_)
            · exact HSJ.out _ HF5.out
            clear hK K
            try simp only [Act.put, List.setIfInBounds_toArray, List.set_cons_zero, List.set_cons_succ]
            refine wpAnyH_take (i := 23) (oi := ⟨some 53, _, _, _, _, _⟩) (v := ?_) rfl (by kernel_rfl) (by kernel_rfl) (by kernel_rfl) (fun _ _ _ h => h) (Or.inl ⟨by rfl, ?_⟩) (by assumption) ?_
            rotate_left 1
            · (intro w hSw; (try dsimp only at hSw); obtain ⟨hI, hB⟩ := hSw; have k0 : w.cell? ⟨Bx, O + k * 12, none⟩ = some (.int .i64 p.kind) := hI 0 _ rfl; have k2 : w.cell? ⟨Bx, O + k * 12 + 2, none⟩ = some (.int .i64 p.o.node) := hI 2 _ rfl; have k3 : w.cell? ⟨Bx, O + k * 12 + 3, none⟩ = some (.int .u64 (p.o.epoch : Int)) := hI 3 _ rfl; have k4 : w.cell? ⟨Bx, O + k * 12 + 4, none⟩ = some (.int .u64 (p.o.seq : Int)) := hI 4 _ rfl; have k5 : w.cell? ⟨Bx, O + k * 12 + 5, none⟩ = some (.int .i64 p.o.tr) := hI 5 _ rfl; have y3 : w.cell? ⟨Bx, O + k * 12 + 2 + 1, none⟩ = some (.int .u64 (p.o.epoch : Int)) := hI 3 _ rfl; have y4 : w.cell? ⟨Bx, O + k * 12 + 2 + 2, none⟩ = some (.int .u64 (p.o.seq : Int)) := hI 4 _ rfl; have y5 : w.cell? ⟨Bx, O + k * 12 + 2 + 3, none⟩ = some (.int .i64 p.o.tr) := hI 5 _ rfl; have b2 : w.cell? ⟨q, 2, none⟩ = some (.int .i64 i.o.node) := hB.cell 2; have b3 : w.cell? ⟨q, 3, none⟩ = some (.int .u64 (i.o.epoch : Int)) := hB.cell 3; have b4 : w.cell? ⟨q, 4, none⟩ = some (.int .u64 (i.o.seq : Int)) := hB.cell 4; have b5 : w.cell? ⟨q, 5, none⟩ = some (.int .i64 i.o.tr) := hB.cell 5; clear hI hB; go_simp) <;> (with_reducible rfl)
            try simp only [Act.put, List.setIfInBounds_toArray, List.set_cons_zero, List.set_cons_succ]
            refine wpAnyH_done (by kernel_rfl) ?_ _
            go_wp2_with fail
            go_ret
            exact ⟨ret_bool (by rw [HCN.out, HUP.out]; rfl), HFa.out.trans (HFR.out.trans HF5.out)⟩
      · have i3 : (n : Int) ≤ (k : Int) := by omega
        have hkn : k = n := by omega
        have HE : Hid (mN rg xs n (tgOf i.o) = false) := by show _ = _; rw [← hkn]; exact HM.out
        clear hkn
        go_wp2_with fail
        go_ret
        exact ⟨ret_bool (by rw [HCN.out, HE.out]; rfl), HFa.out.trans HFR.out⟩
  · have hk1 : ((i.kind : Int) == 1) = false := beq_eq_false_iff_ne.2 hk
    have HCN := Lib.hid (count_piece (xs := xs) (n := n) HHX.out.symm hk)
    unfold pieceB at HCN
    rw [← hsg] at HCN
    have HSG := Lib.hid (dsingle_any w2.drew i.o (HOI.out _ (HF2.out.trans (Fr.refl _ _).drew)) HMK.out)
    rw [← hsg] at HSG
    have HLS : Hid (∀ W, Fr NoBlk wa W → Calls Try.prog 18 #[.int .i64 rg, .slice (some ⟨Bx, O, none⟩) n c] W fun e w' => e = .returned (.int .i64 (laN rg xs n)) ∧ Fr NoBlk W w') := fun W hW => dlast_any W rg _ c xs (HR.out.nofr (HFa.out.trans hW)) n (by omega) hn2 fun x hx => ⟨(HO.out x hx).1.nofr (HFa.out.trans hW), (HO.out x hx).2⟩
    clear hk hsg
    unfold odv oda at HSG
    by_cases hk2 : i.kind = 2
    rotate_left
    · have hk3 : ((i.kind : Int) == 2) = false := beq_eq_false_iff_ne.2 hk2
      rw [decide_eq_false hk2, Bool.false_and] at HCN
      clear hk2 HSG HLS
      go_wp2_with fail
      go_quiet (fail)
      go_wp2
      go_ret
      exact ⟨ret_bool HCN.out.symm, (HFa.out.trans HF2.out).drewN _⟩
    have hk3 : ((i.kind : Int) == 2) = true := beq_iff_eq.2 hk2
    rw [decide_eq_true hk2, Bool.true_and] at HCN
    clear hk2
    go_wp2_with fail
    clear d0 d1 d2 d3 d4 d5 d6 d7 d8 d9 d10 d11
    refine wp_region_held_drew (S := fun w' => Bk w' q 40 #[.int .i64 i.kind, .int .i64 i.index, .int .i64 i.o.node, .int .u64 (i.o.epoch : Int), .int .u64 (i.o.seq : Int), .int .i64 i.o.tr, .int .i64 i.o.t.kind, .slice i.o.t.ra i.o.t.reads.length i.o.t.rc, .slice i.o.t.wa i.o.t.writes.length i.o.t.wc, .slice i.o.t.oa i.o.t.ops.length i.o.t.oc, .int .i64 i.o.t.to, .slice i.o.ma i.o.marks.length i.o.mc]) (by kernel_rfl) (HSD.out _ (HF2.out.trans (Fr.refl _ _).drew)) (fun hHeld => ?_)
    cases sg with
    | true =>
      refine wpAnyH_take (i := 0) (oi := ⟨some 54, _, _, _, _, _⟩) (v := ?_) rfl (by kernel_rfl) (by kernel_rfl) (by kernel_rfl) (fun _ _ _ h => h) (Or.inl ⟨by rfl, ?_⟩) (by assumption) ?_
      rotate_left 1
      · (intro w hSw; (try dsimp only at hSw); have k0 := hSw.cell 0; have k1 := hSw.cell 1; have k2 := hSw.cell 2; have k3 := hSw.cell 3; have k4 := hSw.cell 4; have k5 := hSw.cell 5; have k6 := hSw.cell 6; have k7 := hSw.cell 7; have k8 := hSw.cell 8; have k9 := hSw.cell 9; have k10 := hSw.cell 10; have k11 := hSw.cell 11; clear hSw; simp only [List.getElem?_toArray, List.getElem?_cons_succ, List.getElem?_cons_zero] at k0 k1 k2 k3 k4 k5 k6 k7 k8 k9 k10 k11; go_simp) <;> (with_reducible rfl)
      try simp only [Act.put, List.setIfInBounds_toArray, List.set_cons_zero, List.set_cons_succ]
      refine wpAnyH_take (i := 1) (oi := ⟨some 55, _, _, _, _, _⟩) (v := ?_) rfl (by kernel_rfl) (by kernel_rfl) (by kernel_rfl) (fun _ _ _ h => h) (Or.inl ⟨by rfl, ?_⟩) (by assumption) ?_
      rotate_left 1
      · (intro w hSw; (try dsimp only at hSw); have k0 := hSw.cell 0; have k1 := hSw.cell 1; have k2 := hSw.cell 2; have k3 := hSw.cell 3; have k4 := hSw.cell 4; have k5 := hSw.cell 5; have k6 := hSw.cell 6; have k7 := hSw.cell 7; have k8 := hSw.cell 8; have k9 := hSw.cell 9; have k10 := hSw.cell 10; have k11 := hSw.cell 11; clear hSw; simp only [List.getElem?_toArray, List.getElem?_cons_succ, List.getElem?_cons_zero] at k0 k1 k2 k3 k4 k5 k6 k7 k8 k9 k10 k11; go_simp) <;> (with_reducible rfl)
      try simp only [Act.put, List.setIfInBounds_toArray, List.set_cons_zero, List.set_cons_succ]
      refine wpAnyH_take (i := 2) (oi := ⟨some 56, _, _, _, _, _⟩) (v := ?_) rfl (by kernel_rfl) (by kernel_rfl) (by kernel_rfl) (fun _ _ _ h => h) (Or.inl ⟨by rfl, ?_⟩) (by assumption) ?_
      rotate_left 1
      · (intro w hSw; (try dsimp only at hSw); have k0 := hSw.cell 0; have k1 := hSw.cell 1; have k2 := hSw.cell 2; have k3 := hSw.cell 3; have k4 := hSw.cell 4; have k5 := hSw.cell 5; have k6 := hSw.cell 6; have k7 := hSw.cell 7; have k8 := hSw.cell 8; have k9 := hSw.cell 9; have k10 := hSw.cell 10; have k11 := hSw.cell 11; clear hSw; simp only [List.getElem?_toArray, List.getElem?_cons_succ, List.getElem?_cons_zero] at k0 k1 k2 k3 k4 k5 k6 k7 k8 k9 k10 k11; go_simp) <;> (with_reducible rfl)
      try simp only [Act.put, List.setIfInBounds_toArray, List.set_cons_zero, List.set_cons_succ]
      refine wpAnyH_take (i := 3) (oi := ⟨some 57, _, _, _, _, _⟩) (v := ?_) rfl (by kernel_rfl) (by kernel_rfl) (by kernel_rfl) (fun _ _ _ h => h) (Or.inl ⟨by rfl, ?_⟩) (by assumption) ?_
      rotate_left 1
      · (intro w hSw; (try dsimp only at hSw); have k0 := hSw.cell 0; have k1 := hSw.cell 1; have k2 := hSw.cell 2; have k3 := hSw.cell 3; have k4 := hSw.cell 4; have k5 := hSw.cell 5; have k6 := hSw.cell 6; have k7 := hSw.cell 7; have k8 := hSw.cell 8; have k9 := hSw.cell 9; have k10 := hSw.cell 10; have k11 := hSw.cell 11; clear hSw; simp only [List.getElem?_toArray, List.getElem?_cons_succ, List.getElem?_cons_zero] at k0 k1 k2 k3 k4 k5 k6 k7 k8 k9 k10 k11; go_simp) <;> (with_reducible rfl)
      try simp only [Act.put, List.setIfInBounds_toArray, List.set_cons_zero, List.set_cons_succ]
      refine wpAnyH_take (i := 4) (oi := ⟨some 58, _, _, _, _, _⟩) (v := ?_) rfl (by kernel_rfl) (by kernel_rfl) (by kernel_rfl) (fun _ _ _ h => h) (Or.inl ⟨by rfl, ?_⟩) (by assumption) ?_
      rotate_left 1
      · (intro w hSw; (try dsimp only at hSw); have k0 := hSw.cell 0; have k1 := hSw.cell 1; have k2 := hSw.cell 2; have k3 := hSw.cell 3; have k4 := hSw.cell 4; have k5 := hSw.cell 5; have k6 := hSw.cell 6; have k7 := hSw.cell 7; have k8 := hSw.cell 8; have k9 := hSw.cell 9; have k10 := hSw.cell 10; have k11 := hSw.cell 11; clear hSw; simp only [List.getElem?_toArray, List.getElem?_cons_succ, List.getElem?_cons_zero] at k0 k1 k2 k3 k4 k5 k6 k7 k8 k9 k10 k11; go_simp) <;> (with_reducible rfl)
      try simp only [Act.put, List.setIfInBounds_toArray, List.set_cons_zero, List.set_cons_succ]
      refine wpAnyH_take (i := 5) (oi := ⟨some 59, _, _, _, _, _⟩) (v := ?_) rfl (by kernel_rfl) (by kernel_rfl) (by kernel_rfl) (fun _ _ _ h => h) (Or.inl ⟨by rfl, ?_⟩) (by assumption) ?_
      rotate_left 1
      · (intro w hSw; (try dsimp only at hSw); have k0 := hSw.cell 0; have k1 := hSw.cell 1; have k2 := hSw.cell 2; have k3 := hSw.cell 3; have k4 := hSw.cell 4; have k5 := hSw.cell 5; have k6 := hSw.cell 6; have k7 := hSw.cell 7; have k8 := hSw.cell 8; have k9 := hSw.cell 9; have k10 := hSw.cell 10; have k11 := hSw.cell 11; clear hSw; simp only [List.getElem?_toArray, List.getElem?_cons_succ, List.getElem?_cons_zero] at k0 k1 k2 k3 k4 k5 k6 k7 k8 k9 k10 k11; go_simp) <;> (with_reducible rfl)
      try simp only [Act.put, List.setIfInBounds_toArray, List.set_cons_zero, List.set_cons_succ]
      refine wpAnyH_ready (rs := [6]) (by kernel_rfl) (by simp) ?_
      refine AllReadyH.cons (o := ⟨some 60, _, _, _, _, _⟩) rfl (fun K hK => ?_) AllReadyH.nil
      go_simp
      go_at_call 24
      refine HSG.out.mono ?_
      clear HSG hHeld
      rintro e w5 ⟨he, hf5⟩
      obtain rfl : e = .returned (.bool true) := he
      have HF5 : Hid (Fr NoBlk wa w5) := HF2.out.trans ((Fr.refl _ _).drew.trans hf5)
      have HLA := Lib.hid (HLS.out _ HF5.out)
      clear hf5
      refine hK.out _ _ ?_ (fun hHeld => ?_)
      · exact HSD.out _ HF5.out
      clear hK K
      try simp only [Act.put, List.setIfInBounds_toArray, List.set_cons_zero, List.set_cons_succ]
      refine wpAnyH_take (i := 7) (oi := ⟨some 61, _, _, _, _, _⟩) (v := ?_) rfl (by kernel_rfl) (by kernel_rfl) (by kernel_rfl) (fun _ _ _ h => h) (Or.inl ⟨by rfl, ?_⟩) (by assumption) ?_
      rotate_left 1
      · (intro w hSw; (try dsimp only at hSw); have k0 := hSw.cell 0; have k1 := hSw.cell 1; have k2 := hSw.cell 2; have k3 := hSw.cell 3; have k4 := hSw.cell 4; have k5 := hSw.cell 5; have k6 := hSw.cell 6; have k7 := hSw.cell 7; have k8 := hSw.cell 8; have k9 := hSw.cell 9; have k10 := hSw.cell 10; have k11 := hSw.cell 11; clear hSw; simp only [List.getElem?_toArray, List.getElem?_cons_succ, List.getElem?_cons_zero] at k0 k1 k2 k3 k4 k5 k6 k7 k8 k9 k10 k11; go_simp) <;> (with_reducible rfl)
      try simp only [Act.put, List.setIfInBounds_toArray, List.set_cons_zero, List.set_cons_succ]
      refine wpAnyH_take (i := 8) (oi := ⟨some 62, _, _, _, _, _⟩) (v := ?_) rfl (by kernel_rfl) (by kernel_rfl) (by kernel_rfl) (fun _ _ _ h => h) (Or.inl ⟨by rfl, ?_⟩) (by assumption) ?_
      rotate_left 1
      · (intro w hSw; (try dsimp only at hSw); have k0 := hSw.cell 0; have k1 := hSw.cell 1; have k2 := hSw.cell 2; have k3 := hSw.cell 3; have k4 := hSw.cell 4; have k5 := hSw.cell 5; have k6 := hSw.cell 6; have k7 := hSw.cell 7; have k8 := hSw.cell 8; have k9 := hSw.cell 9; have k10 := hSw.cell 10; have k11 := hSw.cell 11; clear hSw; simp only [List.getElem?_toArray, List.getElem?_cons_succ, List.getElem?_cons_zero] at k0 k1 k2 k3 k4 k5 k6 k7 k8 k9 k10 k11; go_simp) <;> (with_reducible rfl)
      try simp only [Act.put, List.setIfInBounds_toArray, List.set_cons_zero, List.set_cons_succ]
      refine wpAnyH_take (i := 9) (oi := ⟨some 63, _, _, _, _, _⟩) (v := ?_) rfl (by kernel_rfl) (by kernel_rfl) (by kernel_rfl) (fun _ _ _ h => h) (Or.inl ⟨by rfl, ?_⟩) (by assumption) ?_
      rotate_left 1
      · (intro w hSw; (try dsimp only at hSw); have k0 := hSw.cell 0; have k1 := hSw.cell 1; have k2 := hSw.cell 2; have k3 := hSw.cell 3; have k4 := hSw.cell 4; have k5 := hSw.cell 5; have k6 := hSw.cell 6; have k7 := hSw.cell 7; have k8 := hSw.cell 8; have k9 := hSw.cell 9; have k10 := hSw.cell 10; have k11 := hSw.cell 11; clear hSw; simp only [List.getElem?_toArray, List.getElem?_cons_succ, List.getElem?_cons_zero] at k0 k1 k2 k3 k4 k5 k6 k7 k8 k9 k10 k11; go_simp) <;> (with_reducible rfl)
      try simp only [Act.put, List.setIfInBounds_toArray, List.set_cons_zero, List.set_cons_succ]
      refine wpAnyH_take (i := 10) (oi := ⟨some 64, _, _, _, _, _⟩) (v := undef) rfl (by kernel_rfl) (by kernel_rfl) (by kernel_rfl) (fun _ _ _ h => h) (Or.inr ⟨by rfl, rfl⟩) (by assumption) ?_
      try simp only [Act.put, List.setIfInBounds_toArray, List.set_cons_zero, List.set_cons_succ]
      refine wpAnyH_take (i := 11) (oi := ⟨some 65, _, _, _, _, _⟩) (v := undef) rfl (by kernel_rfl) (by kernel_rfl) (by kernel_rfl) (fun _ _ _ h => h) (Or.inr ⟨by rfl, rfl⟩) (by assumption) ?_
      try simp only [Act.put, List.setIfInBounds_toArray, List.set_cons_zero, List.set_cons_succ]
      refine wpAnyH_take (i := 12) (oi := ⟨some 66, _, _, _, _, _⟩) (v := undef) rfl (by kernel_rfl) (by kernel_rfl) (by kernel_rfl) (fun _ _ _ h => h) (Or.inr ⟨by rfl, rfl⟩) (by assumption) ?_
      try simp only [Act.put, List.setIfInBounds_toArray, List.set_cons_zero, List.set_cons_succ]
      refine wpAnyH_take (i := 13) (oi := ⟨some 67, _, _, _, _, _⟩) (v := undef) rfl (by kernel_rfl) (by kernel_rfl) (by kernel_rfl) (fun _ _ _ h => h) (Or.inr ⟨by rfl, rfl⟩) (by assumption) ?_
      try simp only [Act.put, List.setIfInBounds_toArray, List.set_cons_zero, List.set_cons_succ]
      refine wpAnyH_take (i := 14) (oi := ⟨some 68, _, _, _, _, _⟩) (v := undef) rfl (by kernel_rfl) (by kernel_rfl) (by kernel_rfl) (fun _ _ _ h => h) (Or.inr ⟨by rfl, rfl⟩) (by assumption) ?_
      try simp only [Act.put, List.setIfInBounds_toArray, List.set_cons_zero, List.set_cons_succ]
      refine wpAnyH_take (i := 15) (oi := ⟨some 69, _, _, _, _, _⟩) (v := undef) rfl (by kernel_rfl) (by kernel_rfl) (by kernel_rfl) (fun _ _ _ h => h) (Or.inr ⟨by rfl, rfl⟩) (by assumption) ?_
      try simp only [Act.put, List.setIfInBounds_toArray, List.set_cons_zero, List.set_cons_succ]
      refine wpAnyH_take (i := 16) (oi := ⟨some 70, _, _, _, _, _⟩) (v := undef) rfl (by kernel_rfl) (by kernel_rfl) (by kernel_rfl) (fun _ _ _ h => h) (Or.inr ⟨by rfl, rfl⟩) (by assumption) ?_
      try simp only [Act.put, List.setIfInBounds_toArray, List.set_cons_zero, List.set_cons_succ]
      refine wpAnyH_take (i := 17) (oi := ⟨some 71, _, _, _, _, _⟩) (v := undef) rfl (by kernel_rfl) (by kernel_rfl) (by kernel_rfl) (fun _ _ _ h => h) (Or.inr ⟨by rfl, rfl⟩) (by assumption) ?_
      try simp only [Act.put, List.setIfInBounds_toArray, List.set_cons_zero, List.set_cons_succ]
      refine wpAnyH_take (i := 18) (oi := ⟨some 72, _, _, _, _, _⟩) (v := ?_) rfl (by kernel_rfl) (by kernel_rfl) (by kernel_rfl) (fun _ _ _ h => h) (Or.inl ⟨by rfl, ?_⟩) (by assumption) ?_
      rotate_left 1
      · (intro w hSw; (try dsimp only at hSw); have k0 := hSw.cell 0; have k1 := hSw.cell 1; have k2 := hSw.cell 2; have k3 := hSw.cell 3; have k4 := hSw.cell 4; have k5 := hSw.cell 5; have k6 := hSw.cell 6; have k7 := hSw.cell 7; have k8 := hSw.cell 8; have k9 := hSw.cell 9; have k10 := hSw.cell 10; have k11 := hSw.cell 11; clear hSw; simp only [List.getElem?_toArray, List.getElem?_cons_succ, List.getElem?_cons_zero] at k0 k1 k2 k3 k4 k5 k6 k7 k8 k9 k10 k11; go_simp) <;> (with_reducible rfl)
      try simp only [Act.put, List.setIfInBounds_toArray, List.set_cons_zero, List.set_cons_succ]
      refine wpAnyH_take (i := 19) (oi := ⟨some 6, _, _, _, _, _⟩) (v := ?_) rfl (by kernel_rfl) (by kernel_rfl) (by kernel_rfl) (fun _ _ _ h => h) (Or.inl ⟨by rfl, ?_⟩) (by assumption) ?_
      rotate_left 1
      · (intro w hSw; (try dsimp only at hSw); have k0 := hSw.cell 0; have k1 := hSw.cell 1; have k2 := hSw.cell 2; have k3 := hSw.cell 3; have k4 := hSw.cell 4; have k5 := hSw.cell 5; have k6 := hSw.cell 6; have k7 := hSw.cell 7; have k8 := hSw.cell 8; have k9 := hSw.cell 9; have k10 := hSw.cell 10; have k11 := hSw.cell 11; clear hSw; simp only [List.getElem?_toArray, List.getElem?_cons_succ, List.getElem?_cons_zero] at k0 k1 k2 k3 k4 k5 k6 k7 k8 k9 k10 k11; go_simp) <;> (with_reducible rfl)
      try simp only [Act.put, List.setIfInBounds_toArray, List.set_cons_zero, List.set_cons_succ]
      refine wpAnyH_done (by kernel_rfl) ?_ _
      go_wp2_with fail
      go_ret
      exact ⟨ret_bool (by rw [HCN.out]; rfl), HFa.out.trans HF5.out⟩
    | false =>
      generalize laN rg xs n = la at HLS HCN
      by_cases hix : la < i.index
      · have hx : decide (la < i.index) = true := decide_eq_true hix
        rw [hx] at HCN
        refine wpAnyH_take (i := 0) (oi := ⟨some 54, _, _, _, _, _⟩) (v := ?_) rfl (by kernel_rfl) (by kernel_rfl) (by kernel_rfl) (fun _ _ _ h => h) (Or.inl ⟨by rfl, ?_⟩) (by assumption) ?_
        rotate_left 1
        · (intro w hSw; (try dsimp only at hSw); have k0 := hSw.cell 0; have k1 := hSw.cell 1; have k2 := hSw.cell 2; have k3 := hSw.cell 3; have k4 := hSw.cell 4; have k5 := hSw.cell 5; have k6 := hSw.cell 6; have k7 := hSw.cell 7; have k8 := hSw.cell 8; have k9 := hSw.cell 9; have k10 := hSw.cell 10; have k11 := hSw.cell 11; clear hSw; simp only [List.getElem?_toArray, List.getElem?_cons_succ, List.getElem?_cons_zero] at k0 k1 k2 k3 k4 k5 k6 k7 k8 k9 k10 k11; go_simp) <;> (with_reducible rfl)
        try simp only [Act.put, List.setIfInBounds_toArray, List.set_cons_zero, List.set_cons_succ]
        refine wpAnyH_take (i := 1) (oi := ⟨some 55, _, _, _, _, _⟩) (v := ?_) rfl (by kernel_rfl) (by kernel_rfl) (by kernel_rfl) (fun _ _ _ h => h) (Or.inl ⟨by rfl, ?_⟩) (by assumption) ?_
        rotate_left 1
        · (intro w hSw; (try dsimp only at hSw); have k0 := hSw.cell 0; have k1 := hSw.cell 1; have k2 := hSw.cell 2; have k3 := hSw.cell 3; have k4 := hSw.cell 4; have k5 := hSw.cell 5; have k6 := hSw.cell 6; have k7 := hSw.cell 7; have k8 := hSw.cell 8; have k9 := hSw.cell 9; have k10 := hSw.cell 10; have k11 := hSw.cell 11; clear hSw; simp only [List.getElem?_toArray, List.getElem?_cons_succ, List.getElem?_cons_zero] at k0 k1 k2 k3 k4 k5 k6 k7 k8 k9 k10 k11; go_simp) <;> (with_reducible rfl)
        try simp only [Act.put, List.setIfInBounds_toArray, List.set_cons_zero, List.set_cons_succ]
        refine wpAnyH_take (i := 2) (oi := ⟨some 56, _, _, _, _, _⟩) (v := ?_) rfl (by kernel_rfl) (by kernel_rfl) (by kernel_rfl) (fun _ _ _ h => h) (Or.inl ⟨by rfl, ?_⟩) (by assumption) ?_
        rotate_left 1
        · (intro w hSw; (try dsimp only at hSw); have k0 := hSw.cell 0; have k1 := hSw.cell 1; have k2 := hSw.cell 2; have k3 := hSw.cell 3; have k4 := hSw.cell 4; have k5 := hSw.cell 5; have k6 := hSw.cell 6; have k7 := hSw.cell 7; have k8 := hSw.cell 8; have k9 := hSw.cell 9; have k10 := hSw.cell 10; have k11 := hSw.cell 11; clear hSw; simp only [List.getElem?_toArray, List.getElem?_cons_succ, List.getElem?_cons_zero] at k0 k1 k2 k3 k4 k5 k6 k7 k8 k9 k10 k11; go_simp) <;> (with_reducible rfl)
        try simp only [Act.put, List.setIfInBounds_toArray, List.set_cons_zero, List.set_cons_succ]
        refine wpAnyH_take (i := 3) (oi := ⟨some 57, _, _, _, _, _⟩) (v := ?_) rfl (by kernel_rfl) (by kernel_rfl) (by kernel_rfl) (fun _ _ _ h => h) (Or.inl ⟨by rfl, ?_⟩) (by assumption) ?_
        rotate_left 1
        · (intro w hSw; (try dsimp only at hSw); have k0 := hSw.cell 0; have k1 := hSw.cell 1; have k2 := hSw.cell 2; have k3 := hSw.cell 3; have k4 := hSw.cell 4; have k5 := hSw.cell 5; have k6 := hSw.cell 6; have k7 := hSw.cell 7; have k8 := hSw.cell 8; have k9 := hSw.cell 9; have k10 := hSw.cell 10; have k11 := hSw.cell 11; clear hSw; simp only [List.getElem?_toArray, List.getElem?_cons_succ, List.getElem?_cons_zero] at k0 k1 k2 k3 k4 k5 k6 k7 k8 k9 k10 k11; go_simp) <;> (with_reducible rfl)
        try simp only [Act.put, List.setIfInBounds_toArray, List.set_cons_zero, List.set_cons_succ]
        refine wpAnyH_take (i := 4) (oi := ⟨some 58, _, _, _, _, _⟩) (v := ?_) rfl (by kernel_rfl) (by kernel_rfl) (by kernel_rfl) (fun _ _ _ h => h) (Or.inl ⟨by rfl, ?_⟩) (by assumption) ?_
        rotate_left 1
        · (intro w hSw; (try dsimp only at hSw); have k0 := hSw.cell 0; have k1 := hSw.cell 1; have k2 := hSw.cell 2; have k3 := hSw.cell 3; have k4 := hSw.cell 4; have k5 := hSw.cell 5; have k6 := hSw.cell 6; have k7 := hSw.cell 7; have k8 := hSw.cell 8; have k9 := hSw.cell 9; have k10 := hSw.cell 10; have k11 := hSw.cell 11; clear hSw; simp only [List.getElem?_toArray, List.getElem?_cons_succ, List.getElem?_cons_zero] at k0 k1 k2 k3 k4 k5 k6 k7 k8 k9 k10 k11; go_simp) <;> (with_reducible rfl)
        try simp only [Act.put, List.setIfInBounds_toArray, List.set_cons_zero, List.set_cons_succ]
        refine wpAnyH_take (i := 5) (oi := ⟨some 59, _, _, _, _, _⟩) (v := ?_) rfl (by kernel_rfl) (by kernel_rfl) (by kernel_rfl) (fun _ _ _ h => h) (Or.inl ⟨by rfl, ?_⟩) (by assumption) ?_
        rotate_left 1
        · (intro w hSw; (try dsimp only at hSw); have k0 := hSw.cell 0; have k1 := hSw.cell 1; have k2 := hSw.cell 2; have k3 := hSw.cell 3; have k4 := hSw.cell 4; have k5 := hSw.cell 5; have k6 := hSw.cell 6; have k7 := hSw.cell 7; have k8 := hSw.cell 8; have k9 := hSw.cell 9; have k10 := hSw.cell 10; have k11 := hSw.cell 11; clear hSw; simp only [List.getElem?_toArray, List.getElem?_cons_succ, List.getElem?_cons_zero] at k0 k1 k2 k3 k4 k5 k6 k7 k8 k9 k10 k11; go_simp) <;> (with_reducible rfl)
        try simp only [Act.put, List.setIfInBounds_toArray, List.set_cons_zero, List.set_cons_succ]
        refine wpAnyH_ready (rs := [6]) (by kernel_rfl) (by simp) ?_
        refine AllReadyH.cons (o := ⟨some 60, _, _, _, _, _⟩) rfl (fun K hK => ?_) AllReadyH.nil
        go_simp
        go_at_call 24
        refine HSG.out.mono ?_
        clear HSG hHeld
        rintro e w5 ⟨he, hf5⟩
        obtain rfl : e = .returned (.bool false) := he
        have HF5 : Hid (Fr NoBlk wa w5) := HF2.out.trans ((Fr.refl _ _).drew.trans hf5)
        have HLA := Lib.hid (HLS.out _ HF5.out)
        clear hf5
        refine hK.out _ _ ?_ (fun hHeld => ?_)
        · exact HSD.out _ HF5.out
        clear hK K
        try simp only [Act.put, List.setIfInBounds_toArray, List.set_cons_zero, List.set_cons_succ]
        refine wpAnyH_take (i := 7) (oi := ⟨some 61, _, _, _, _, _⟩) (v := ?_) rfl (by kernel_rfl) (by kernel_rfl) (by kernel_rfl) (fun _ _ _ h => h) (Or.inl ⟨by rfl, ?_⟩) (by assumption) ?_
        rotate_left 1
        · (intro w hSw; (try dsimp only at hSw); have k0 := hSw.cell 0; have k1 := hSw.cell 1; have k2 := hSw.cell 2; have k3 := hSw.cell 3; have k4 := hSw.cell 4; have k5 := hSw.cell 5; have k6 := hSw.cell 6; have k7 := hSw.cell 7; have k8 := hSw.cell 8; have k9 := hSw.cell 9; have k10 := hSw.cell 10; have k11 := hSw.cell 11; clear hSw; simp only [List.getElem?_toArray, List.getElem?_cons_succ, List.getElem?_cons_zero] at k0 k1 k2 k3 k4 k5 k6 k7 k8 k9 k10 k11; go_simp) <;> (with_reducible rfl)
        try simp only [Act.put, List.setIfInBounds_toArray, List.set_cons_zero, List.set_cons_succ]
        refine wpAnyH_take (i := 8) (oi := ⟨some 62, _, _, _, _, _⟩) (v := ?_) rfl (by kernel_rfl) (by kernel_rfl) (by kernel_rfl) (fun _ _ _ h => h) (Or.inl ⟨by rfl, ?_⟩) (by assumption) ?_
        rotate_left 1
        · (intro w hSw; (try dsimp only at hSw); have k0 := hSw.cell 0; have k1 := hSw.cell 1; have k2 := hSw.cell 2; have k3 := hSw.cell 3; have k4 := hSw.cell 4; have k5 := hSw.cell 5; have k6 := hSw.cell 6; have k7 := hSw.cell 7; have k8 := hSw.cell 8; have k9 := hSw.cell 9; have k10 := hSw.cell 10; have k11 := hSw.cell 11; clear hSw; simp only [List.getElem?_toArray, List.getElem?_cons_succ, List.getElem?_cons_zero] at k0 k1 k2 k3 k4 k5 k6 k7 k8 k9 k10 k11; go_simp) <;> (with_reducible rfl)
        try simp only [Act.put, List.setIfInBounds_toArray, List.set_cons_zero, List.set_cons_succ]
        refine wpAnyH_take (i := 9) (oi := ⟨some 63, _, _, _, _, _⟩) (v := ?_) rfl (by kernel_rfl) (by kernel_rfl) (by kernel_rfl) (fun _ _ _ h => h) (Or.inl ⟨by rfl, ?_⟩) (by assumption) ?_
        rotate_left 1
        · (intro w hSw; (try dsimp only at hSw); have k0 := hSw.cell 0; have k1 := hSw.cell 1; have k2 := hSw.cell 2; have k3 := hSw.cell 3; have k4 := hSw.cell 4; have k5 := hSw.cell 5; have k6 := hSw.cell 6; have k7 := hSw.cell 7; have k8 := hSw.cell 8; have k9 := hSw.cell 9; have k10 := hSw.cell 10; have k11 := hSw.cell 11; clear hSw; simp only [List.getElem?_toArray, List.getElem?_cons_succ, List.getElem?_cons_zero] at k0 k1 k2 k3 k4 k5 k6 k7 k8 k9 k10 k11; go_simp) <;> (with_reducible rfl)
        try simp only [Act.put, List.setIfInBounds_toArray, List.set_cons_zero, List.set_cons_succ]
        refine wpAnyH_take (i := 10) (oi := ⟨some 64, _, _, _, _, _⟩) (v := ?_) rfl (by kernel_rfl) (by kernel_rfl) (by kernel_rfl) (fun _ _ _ h => h) (Or.inl ⟨by rfl, ?_⟩) (by assumption) ?_
        rotate_left 1
        · (intro w hSw; (try dsimp only at hSw); have k0 := hSw.cell 0; have k1 := hSw.cell 1; have k2 := hSw.cell 2; have k3 := hSw.cell 3; have k4 := hSw.cell 4; have k5 := hSw.cell 5; have k6 := hSw.cell 6; have k7 := hSw.cell 7; have k8 := hSw.cell 8; have k9 := hSw.cell 9; have k10 := hSw.cell 10; have k11 := hSw.cell 11; clear hSw; simp only [List.getElem?_toArray, List.getElem?_cons_succ, List.getElem?_cons_zero] at k0 k1 k2 k3 k4 k5 k6 k7 k8 k9 k10 k11; go_simp) <;> (with_reducible rfl)
        try simp only [Act.put, List.setIfInBounds_toArray, List.set_cons_zero, List.set_cons_succ]
        refine wpAnyH_take (i := 11) (oi := ⟨some 65, _, _, _, _, _⟩) (v := ?_) rfl (by kernel_rfl) (by kernel_rfl) (by kernel_rfl) (fun _ _ _ h => h) (Or.inl ⟨by rfl, ?_⟩) (by assumption) ?_
        rotate_left 1
        · (intro w hSw; (try dsimp only at hSw); have k0 := hSw.cell 0; have k1 := hSw.cell 1; have k2 := hSw.cell 2; have k3 := hSw.cell 3; have k4 := hSw.cell 4; have k5 := hSw.cell 5; have k6 := hSw.cell 6; have k7 := hSw.cell 7; have k8 := hSw.cell 8; have k9 := hSw.cell 9; have k10 := hSw.cell 10; have k11 := hSw.cell 11; clear hSw; simp only [List.getElem?_toArray, List.getElem?_cons_succ, List.getElem?_cons_zero] at k0 k1 k2 k3 k4 k5 k6 k7 k8 k9 k10 k11; go_simp) <;> (with_reducible rfl)
        try simp only [Act.put, List.setIfInBounds_toArray, List.set_cons_zero, List.set_cons_succ]
        refine wpAnyH_take (i := 12) (oi := ⟨some 66, _, _, _, _, _⟩) (v := ?_) rfl (by kernel_rfl) (by kernel_rfl) (by kernel_rfl) (fun _ _ _ h => h) (Or.inl ⟨by rfl, ?_⟩) (by assumption) ?_
        rotate_left 1
        · (intro w hSw; (try dsimp only at hSw); have k0 := hSw.cell 0; have k1 := hSw.cell 1; have k2 := hSw.cell 2; have k3 := hSw.cell 3; have k4 := hSw.cell 4; have k5 := hSw.cell 5; have k6 := hSw.cell 6; have k7 := hSw.cell 7; have k8 := hSw.cell 8; have k9 := hSw.cell 9; have k10 := hSw.cell 10; have k11 := hSw.cell 11; clear hSw; simp only [List.getElem?_toArray, List.getElem?_cons_succ, List.getElem?_cons_zero] at k0 k1 k2 k3 k4 k5 k6 k7 k8 k9 k10 k11; go_simp) <;> (with_reducible rfl)
        try simp only [Act.put, List.setIfInBounds_toArray, List.set_cons_zero, List.set_cons_succ]
        refine wpAnyH_take (i := 13) (oi := ⟨some 67, _, _, _, _, _⟩) (v := ?_) rfl (by kernel_rfl) (by kernel_rfl) (by kernel_rfl) (fun _ _ _ h => h) (Or.inl ⟨by rfl, ?_⟩) (by assumption) ?_
        rotate_left 1
        · (intro w hSw; (try dsimp only at hSw); have k0 := hSw.cell 0; have k1 := hSw.cell 1; have k2 := hSw.cell 2; have k3 := hSw.cell 3; have k4 := hSw.cell 4; have k5 := hSw.cell 5; have k6 := hSw.cell 6; have k7 := hSw.cell 7; have k8 := hSw.cell 8; have k9 := hSw.cell 9; have k10 := hSw.cell 10; have k11 := hSw.cell 11; clear hSw; simp only [List.getElem?_toArray, List.getElem?_cons_succ, List.getElem?_cons_zero] at k0 k1 k2 k3 k4 k5 k6 k7 k8 k9 k10 k11; go_simp) <;> (with_reducible rfl)
        try simp only [Act.put, List.setIfInBounds_toArray, List.set_cons_zero, List.set_cons_succ]
        refine wpAnyH_take (i := 14) (oi := ⟨some 68, _, _, _, _, _⟩) (v := ?_) rfl (by kernel_rfl) (by kernel_rfl) (by kernel_rfl) (fun _ _ _ h => h) (Or.inl ⟨by rfl, ?_⟩) (by assumption) ?_
        rotate_left 1
        · (intro w hSw; (try dsimp only at hSw); have k0 := hSw.cell 0; have k1 := hSw.cell 1; have k2 := hSw.cell 2; have k3 := hSw.cell 3; have k4 := hSw.cell 4; have k5 := hSw.cell 5; have k6 := hSw.cell 6; have k7 := hSw.cell 7; have k8 := hSw.cell 8; have k9 := hSw.cell 9; have k10 := hSw.cell 10; have k11 := hSw.cell 11; clear hSw; simp only [List.getElem?_toArray, List.getElem?_cons_succ, List.getElem?_cons_zero] at k0 k1 k2 k3 k4 k5 k6 k7 k8 k9 k10 k11; go_simp) <;> (with_reducible rfl)
        try simp only [Act.put, List.setIfInBounds_toArray, List.set_cons_zero, List.set_cons_succ]
        refine wpAnyH_take (i := 15) (oi := ⟨some 69, _, _, _, _, _⟩) (v := ?_) rfl (by kernel_rfl) (by kernel_rfl) (by kernel_rfl) (fun _ _ _ h => h) (Or.inl ⟨by rfl, ?_⟩) (by assumption) ?_
        rotate_left 1
        · (intro w hSw; (try dsimp only at hSw); have k0 := hSw.cell 0; have k1 := hSw.cell 1; have k2 := hSw.cell 2; have k3 := hSw.cell 3; have k4 := hSw.cell 4; have k5 := hSw.cell 5; have k6 := hSw.cell 6; have k7 := hSw.cell 7; have k8 := hSw.cell 8; have k9 := hSw.cell 9; have k10 := hSw.cell 10; have k11 := hSw.cell 11; clear hSw; simp only [List.getElem?_toArray, List.getElem?_cons_succ, List.getElem?_cons_zero] at k0 k1 k2 k3 k4 k5 k6 k7 k8 k9 k10 k11; go_simp) <;> (with_reducible rfl)
        try simp only [Act.put, List.setIfInBounds_toArray, List.set_cons_zero, List.set_cons_succ]
        refine wpAnyH_ready (rs := [16]) (by kernel_rfl) (by simp) ?_
        refine AllReadyH.cons (o := ⟨some 70, _, _, _, _, _⟩) rfl (fun K hK => ?_) AllReadyH.nil
        go_simp
        go_at_call 18
        refine HLA.out.mono ?_
        clear HLA hHeld
        rintro e w6 ⟨rfl, hf6⟩
        have HF6 : Hid (Fr NoBlk wa w6) := HF5.out.trans hf6
        clear hf6
        refine hK.out _ _ ?_ (fun hHeld => ?_)
        · exact HSD.out _ HF6.out
        clear hK K
        try simp only [Act.put, List.setIfInBounds_toArray, List.set_cons_zero, List.set_cons_succ]
        refine wpAnyH_take (i := 17) (oi := ⟨some 71, _, _, _, _, _⟩) (v := ?_) rfl (by kernel_rfl) (by kernel_rfl) (by kernel_rfl) (fun _ _ _ h => h) (Or.inl ⟨by rfl, ?_⟩) (by assumption) ?_
        rotate_left 1
        · (intro w hSw; (try dsimp only at hSw); have k0 := hSw.cell 0; have k1 := hSw.cell 1; have k2 := hSw.cell 2; have k3 := hSw.cell 3; have k4 := hSw.cell 4; have k5 := hSw.cell 5; have k6 := hSw.cell 6; have k7 := hSw.cell 7; have k8 := hSw.cell 8; have k9 := hSw.cell 9; have k10 := hSw.cell 10; have k11 := hSw.cell 11; clear hSw; simp only [List.getElem?_toArray, List.getElem?_cons_succ, List.getElem?_cons_zero] at k0 k1 k2 k3 k4 k5 k6 k7 k8 k9 k10 k11; go_simp) <;> (with_reducible rfl)
        try simp only [Act.put, List.setIfInBounds_toArray, List.set_cons_zero, List.set_cons_succ]
        refine wpAnyH_take (i := 18) (oi := ⟨some 72, _, _, _, _, _⟩) (v := ?_) rfl (by kernel_rfl) (by kernel_rfl) (by kernel_rfl) (fun _ _ _ h => h) (Or.inl ⟨by rfl, ?_⟩) (by assumption) ?_
        rotate_left 1
        · (intro w hSw; (try dsimp only at hSw); have k0 := hSw.cell 0; have k1 := hSw.cell 1; have k2 := hSw.cell 2; have k3 := hSw.cell 3; have k4 := hSw.cell 4; have k5 := hSw.cell 5; have k6 := hSw.cell 6; have k7 := hSw.cell 7; have k8 := hSw.cell 8; have k9 := hSw.cell 9; have k10 := hSw.cell 10; have k11 := hSw.cell 11; clear hSw; simp only [List.getElem?_toArray, List.getElem?_cons_succ, List.getElem?_cons_zero] at k0 k1 k2 k3 k4 k5 k6 k7 k8 k9 k10 k11; go_simp) <;> (with_reducible rfl)
        try simp only [Act.put, List.setIfInBounds_toArray, List.set_cons_zero, List.set_cons_succ]
        refine wpAnyH_take (i := 19) (oi := ⟨some 6, _, _, _, _, _⟩) (v := ?_) rfl (by kernel_rfl) (by kernel_rfl) (by kernel_rfl) (fun _ _ _ h => h) (Or.inl ⟨by rfl, ?_⟩) (by assumption) ?_
        rotate_left 1
        · (intro w hSw; (try dsimp only at hSw); have k0 := hSw.cell 0; have k1 := hSw.cell 1; have k2 := hSw.cell 2; have k3 := hSw.cell 3; have k4 := hSw.cell 4; have k5 := hSw.cell 5; have k6 := hSw.cell 6; have k7 := hSw.cell 7; have k8 := hSw.cell 8; have k9 := hSw.cell 9; have k10 := hSw.cell 10; have k11 := hSw.cell 11; clear hSw; simp only [List.getElem?_toArray, List.getElem?_cons_succ, List.getElem?_cons_zero] at k0 k1 k2 k3 k4 k5 k6 k7 k8 k9 k10 k11; go_simp) <;> (with_reducible rfl)
        try simp only [Act.put, List.setIfInBounds_toArray, List.set_cons_zero, List.set_cons_succ]
        refine wpAnyH_done (by kernel_rfl) ?_ _
        go_wp2_with fail
        go_ret
        exact ⟨ret_bool (by rw [HCN.out]; rfl), HFa.out.trans HF6.out⟩
      · have hx : decide (la < i.index) = false := decide_eq_false hix
        rw [hx] at HCN
        refine wpAnyH_take (i := 0) (oi := ⟨some 54, _, _, _, _, _⟩) (v := ?_) rfl (by kernel_rfl) (by kernel_rfl) (by kernel_rfl) (fun _ _ _ h => h) (Or.inl ⟨by rfl, ?_⟩) (by assumption) ?_
        rotate_left 1
        · (intro w hSw; (try dsimp only at hSw); have k0 := hSw.cell 0; have k1 := hSw.cell 1; have k2 := hSw.cell 2; have k3 := hSw.cell 3; have k4 := hSw.cell 4; have k5 := hSw.cell 5; have k6 := hSw.cell 6; have k7 := hSw.cell 7; have k8 := hSw.cell 8; have k9 := hSw.cell 9; have k10 := hSw.cell 10; have k11 := hSw.cell 11; clear hSw; simp only [List.getElem?_toArray, List.getElem?_cons_succ, List.getElem?_cons_zero] at k0 k1 k2 k3 k4 k5 k6 k7 k8 k9 k10 k11; go_simp) <;> (with_reducible rfl)
        try simp only [Act.put, List.setIfInBounds_toArray, List.set_cons_zero, List.set_cons_succ]
        refine wpAnyH_take (i := 1) (oi := ⟨some 55, _, _, _, _, _⟩) (v := ?_) rfl (by kernel_rfl) (by kernel_rfl) (by kernel_rfl) (fun _ _ _ h => h) (Or.inl ⟨by rfl, ?_⟩) (by assumption) ?_
        rotate_left 1
        · (intro w hSw; (try dsimp only at hSw); have k0 := hSw.cell 0; have k1 := hSw.cell 1; have k2 := hSw.cell 2; have k3 := hSw.cell 3; have k4 := hSw.cell 4; have k5 := hSw.cell 5; have k6 := hSw.cell 6; have k7 := hSw.cell 7; have k8 := hSw.cell 8; have k9 := hSw.cell 9; have k10 := hSw.cell 10; have k11 := hSw.cell 11; clear hSw; simp only [List.getElem?_toArray, List.getElem?_cons_succ, List.getElem?_cons_zero] at k0 k1 k2 k3 k4 k5 k6 k7 k8 k9 k10 k11; go_simp) <;> (with_reducible rfl)
        try simp only [Act.put, List.setIfInBounds_toArray, List.set_cons_zero, List.set_cons_succ]
        refine wpAnyH_take (i := 2) (oi := ⟨some 56, _, _, _, _, _⟩) (v := ?_) rfl (by kernel_rfl) (by kernel_rfl) (by kernel_rfl) (fun _ _ _ h => h) (Or.inl ⟨by rfl, ?_⟩) (by assumption) ?_
        rotate_left 1
        · (intro w hSw; (try dsimp only at hSw); have k0 := hSw.cell 0; have k1 := hSw.cell 1; have k2 := hSw.cell 2; have k3 := hSw.cell 3; have k4 := hSw.cell 4; have k5 := hSw.cell 5; have k6 := hSw.cell 6; have k7 := hSw.cell 7; have k8 := hSw.cell 8; have k9 := hSw.cell 9; have k10 := hSw.cell 10; have k11 := hSw.cell 11; clear hSw; simp only [List.getElem?_toArray, List.getElem?_cons_succ, List.getElem?_cons_zero] at k0 k1 k2 k3 k4 k5 k6 k7 k8 k9 k10 k11; go_simp) <;> (with_reducible rfl)
        try simp only [Act.put, List.setIfInBounds_toArray, List.set_cons_zero, List.set_cons_succ]
        refine wpAnyH_take (i := 3) (oi := ⟨some 57, _, _, _, _, _⟩) (v := ?_) rfl (by kernel_rfl) (by kernel_rfl) (by kernel_rfl) (fun _ _ _ h => h) (Or.inl ⟨by rfl, ?_⟩) (by assumption) ?_
        rotate_left 1
        · (intro w hSw; (try dsimp only at hSw); have k0 := hSw.cell 0; have k1 := hSw.cell 1; have k2 := hSw.cell 2; have k3 := hSw.cell 3; have k4 := hSw.cell 4; have k5 := hSw.cell 5; have k6 := hSw.cell 6; have k7 := hSw.cell 7; have k8 := hSw.cell 8; have k9 := hSw.cell 9; have k10 := hSw.cell 10; have k11 := hSw.cell 11; clear hSw; simp only [List.getElem?_toArray, List.getElem?_cons_succ, List.getElem?_cons_zero] at k0 k1 k2 k3 k4 k5 k6 k7 k8 k9 k10 k11; go_simp) <;> (with_reducible rfl)
        try simp only [Act.put, List.setIfInBounds_toArray, List.set_cons_zero, List.set_cons_succ]
        refine wpAnyH_take (i := 4) (oi := ⟨some 58, _, _, _, _, _⟩) (v := ?_) rfl (by kernel_rfl) (by kernel_rfl) (by kernel_rfl) (fun _ _ _ h => h) (Or.inl ⟨by rfl, ?_⟩) (by assumption) ?_
        rotate_left 1
        · (intro w hSw; (try dsimp only at hSw); have k0 := hSw.cell 0; have k1 := hSw.cell 1; have k2 := hSw.cell 2; have k3 := hSw.cell 3; have k4 := hSw.cell 4; have k5 := hSw.cell 5; have k6 := hSw.cell 6; have k7 := hSw.cell 7; have k8 := hSw.cell 8; have k9 := hSw.cell 9; have k10 := hSw.cell 10; have k11 := hSw.cell 11; clear hSw; simp only [List.getElem?_toArray, List.getElem?_cons_succ, List.getElem?_cons_zero] at k0 k1 k2 k3 k4 k5 k6 k7 k8 k9 k10 k11; go_simp) <;> (with_reducible rfl)
        try simp only [Act.put, List.setIfInBounds_toArray, List.set_cons_zero, List.set_cons_succ]
        refine wpAnyH_take (i := 5) (oi := ⟨some 59, _, _, _, _, _⟩) (v := ?_) rfl (by kernel_rfl) (by kernel_rfl) (by kernel_rfl) (fun _ _ _ h => h) (Or.inl ⟨by rfl, ?_⟩) (by assumption) ?_
        rotate_left 1
        · (intro w hSw; (try dsimp only at hSw); have k0 := hSw.cell 0; have k1 := hSw.cell 1; have k2 := hSw.cell 2; have k3 := hSw.cell 3; have k4 := hSw.cell 4; have k5 := hSw.cell 5; have k6 := hSw.cell 6; have k7 := hSw.cell 7; have k8 := hSw.cell 8; have k9 := hSw.cell 9; have k10 := hSw.cell 10; have k11 := hSw.cell 11; clear hSw; simp only [List.getElem?_toArray, List.getElem?_cons_succ, List.getElem?_cons_zero] at k0 k1 k2 k3 k4 k5 k6 k7 k8 k9 k10 k11; go_simp) <;> (with_reducible rfl)
        try simp only [Act.put, List.setIfInBounds_toArray, List.set_cons_zero, List.set_cons_succ]
        refine wpAnyH_ready (rs := [6]) (by kernel_rfl) (by simp) ?_
        refine AllReadyH.cons (o := ⟨some 60, _, _, _, _, _⟩) rfl (fun K hK => ?_) AllReadyH.nil
        go_simp
        go_at_call 24
        refine HSG.out.mono ?_
        clear HSG hHeld
        rintro e w5 ⟨he, hf5⟩
        obtain rfl : e = .returned (.bool false) := he
        have HF5 : Hid (Fr NoBlk wa w5) := HF2.out.trans ((Fr.refl _ _).drew.trans hf5)
        have HLA := Lib.hid (HLS.out _ HF5.out)
        clear hf5
        refine hK.out _ _ ?_ (fun hHeld => ?_)
        · exact HSD.out _ HF5.out
        clear hK K
        try simp only [Act.put, List.setIfInBounds_toArray, List.set_cons_zero, List.set_cons_succ]
        refine wpAnyH_take (i := 7) (oi := ⟨some 61, _, _, _, _, _⟩) (v := ?_) rfl (by kernel_rfl) (by kernel_rfl) (by kernel_rfl) (fun _ _ _ h => h) (Or.inl ⟨by rfl, ?_⟩) (by assumption) ?_
        rotate_left 1
        · (intro w hSw; (try dsimp only at hSw); have k0 := hSw.cell 0; have k1 := hSw.cell 1; have k2 := hSw.cell 2; have k3 := hSw.cell 3; have k4 := hSw.cell 4; have k5 := hSw.cell 5; have k6 := hSw.cell 6; have k7 := hSw.cell 7; have k8 := hSw.cell 8; have k9 := hSw.cell 9; have k10 := hSw.cell 10; have k11 := hSw.cell 11; clear hSw; simp only [List.getElem?_toArray, List.getElem?_cons_succ, List.getElem?_cons_zero] at k0 k1 k2 k3 k4 k5 k6 k7 k8 k9 k10 k11; go_simp) <;> (with_reducible rfl)
        try simp only [Act.put, List.setIfInBounds_toArray, List.set_cons_zero, List.set_cons_succ]
        refine wpAnyH_take (i := 8) (oi := ⟨some 62, _, _, _, _, _⟩) (v := ?_) rfl (by kernel_rfl) (by kernel_rfl) (by kernel_rfl) (fun _ _ _ h => h) (Or.inl ⟨by rfl, ?_⟩) (by assumption) ?_
        rotate_left 1
        · (intro w hSw; (try dsimp only at hSw); have k0 := hSw.cell 0; have k1 := hSw.cell 1; have k2 := hSw.cell 2; have k3 := hSw.cell 3; have k4 := hSw.cell 4; have k5 := hSw.cell 5; have k6 := hSw.cell 6; have k7 := hSw.cell 7; have k8 := hSw.cell 8; have k9 := hSw.cell 9; have k10 := hSw.cell 10; have k11 := hSw.cell 11; clear hSw; simp only [List.getElem?_toArray, List.getElem?_cons_succ, List.getElem?_cons_zero] at k0 k1 k2 k3 k4 k5 k6 k7 k8 k9 k10 k11; go_simp) <;> (with_reducible rfl)
        try simp only [Act.put, List.setIfInBounds_toArray, List.set_cons_zero, List.set_cons_succ]
        refine wpAnyH_take (i := 9) (oi := ⟨some 63, _, _, _, _, _⟩) (v := ?_) rfl (by kernel_rfl) (by kernel_rfl) (by kernel_rfl) (fun _ _ _ h => h) (Or.inl ⟨by rfl, ?_⟩) (by assumption) ?_
        rotate_left 1
        · (intro w hSw; (try dsimp only at hSw); have k0 := hSw.cell 0; have k1 := hSw.cell 1; have k2 := hSw.cell 2; have k3 := hSw.cell 3; have k4 := hSw.cell 4; have k5 := hSw.cell 5; have k6 := hSw.cell 6; have k7 := hSw.cell 7; have k8 := hSw.cell 8; have k9 := hSw.cell 9; have k10 := hSw.cell 10; have k11 := hSw.cell 11; clear hSw; simp only [List.getElem?_toArray, List.getElem?_cons_succ, List.getElem?_cons_zero] at k0 k1 k2 k3 k4 k5 k6 k7 k8 k9 k10 k11; go_simp) <;> (with_reducible rfl)
        try simp only [Act.put, List.setIfInBounds_toArray, List.set_cons_zero, List.set_cons_succ]
        refine wpAnyH_take (i := 10) (oi := ⟨some 64, _, _, _, _, _⟩) (v := ?_) rfl (by kernel_rfl) (by kernel_rfl) (by kernel_rfl) (fun _ _ _ h => h) (Or.inl ⟨by rfl, ?_⟩) (by assumption) ?_
        rotate_left 1
        · (intro w hSw; (try dsimp only at hSw); have k0 := hSw.cell 0; have k1 := hSw.cell 1; have k2 := hSw.cell 2; have k3 := hSw.cell 3; have k4 := hSw.cell 4; have k5 := hSw.cell 5; have k6 := hSw.cell 6; have k7 := hSw.cell 7; have k8 := hSw.cell 8; have k9 := hSw.cell 9; have k10 := hSw.cell 10; have k11 := hSw.cell 11; clear hSw; simp only [List.getElem?_toArray, List.getElem?_cons_succ, List.getElem?_cons_zero] at k0 k1 k2 k3 k4 k5 k6 k7 k8 k9 k10 k11; go_simp) <;> (with_reducible rfl)
        try simp only [Act.put, List.setIfInBounds_toArray, List.set_cons_zero, List.set_cons_succ]
        refine wpAnyH_take (i := 11) (oi := ⟨some 65, _, _, _, _, _⟩) (v := ?_) rfl (by kernel_rfl) (by kernel_rfl) (by kernel_rfl) (fun _ _ _ h => h) (Or.inl ⟨by rfl, ?_⟩) (by assumption) ?_
        rotate_left 1
        · (intro w hSw; (try dsimp only at hSw); have k0 := hSw.cell 0; have k1 := hSw.cell 1; have k2 := hSw.cell 2; have k3 := hSw.cell 3; have k4 := hSw.cell 4; have k5 := hSw.cell 5; have k6 := hSw.cell 6; have k7 := hSw.cell 7; have k8 := hSw.cell 8; have k9 := hSw.cell 9; have k10 := hSw.cell 10; have k11 := hSw.cell 11; clear hSw; simp only [List.getElem?_toArray, List.getElem?_cons_succ, List.getElem?_cons_zero] at k0 k1 k2 k3 k4 k5 k6 k7 k8 k9 k10 k11; go_simp) <;> (with_reducible rfl)
        try simp only [Act.put, List.setIfInBounds_toArray, List.set_cons_zero, List.set_cons_succ]
        refine wpAnyH_take (i := 12) (oi := ⟨some 66, _, _, _, _, _⟩) (v := ?_) rfl (by kernel_rfl) (by kernel_rfl) (by kernel_rfl) (fun _ _ _ h => h) (Or.inl ⟨by rfl, ?_⟩) (by assumption) ?_
        rotate_left 1
        · (intro w hSw; (try dsimp only at hSw); have k0 := hSw.cell 0; have k1 := hSw.cell 1; have k2 := hSw.cell 2; have k3 := hSw.cell 3; have k4 := hSw.cell 4; have k5 := hSw.cell 5; have k6 := hSw.cell 6; have k7 := hSw.cell 7; have k8 := hSw.cell 8; have k9 := hSw.cell 9; have k10 := hSw.cell 10; have k11 := hSw.cell 11; clear hSw; simp only [List.getElem?_toArray, List.getElem?_cons_succ, List.getElem?_cons_zero] at k0 k1 k2 k3 k4 k5 k6 k7 k8 k9 k10 k11; go_simp) <;> (with_reducible rfl)
        try simp only [Act.put, List.setIfInBounds_toArray, List.set_cons_zero, List.set_cons_succ]
        refine wpAnyH_take (i := 13) (oi := ⟨some 67, _, _, _, _, _⟩) (v := ?_) rfl (by kernel_rfl) (by kernel_rfl) (by kernel_rfl) (fun _ _ _ h => h) (Or.inl ⟨by rfl, ?_⟩) (by assumption) ?_
        rotate_left 1
        · (intro w hSw; (try dsimp only at hSw); have k0 := hSw.cell 0; have k1 := hSw.cell 1; have k2 := hSw.cell 2; have k3 := hSw.cell 3; have k4 := hSw.cell 4; have k5 := hSw.cell 5; have k6 := hSw.cell 6; have k7 := hSw.cell 7; have k8 := hSw.cell 8; have k9 := hSw.cell 9; have k10 := hSw.cell 10; have k11 := hSw.cell 11; clear hSw; simp only [List.getElem?_toArray, List.getElem?_cons_succ, List.getElem?_cons_zero] at k0 k1 k2 k3 k4 k5 k6 k7 k8 k9 k10 k11; go_simp) <;> (with_reducible rfl)
        try simp only [Act.put, List.setIfInBounds_toArray, List.set_cons_zero, List.set_cons_succ]
        refine wpAnyH_take (i := 14) (oi := ⟨some 68, _, _, _, _, _⟩) (v := ?_) rfl (by kernel_rfl) (by kernel_rfl) (by kernel_rfl) (fun _ _ _ h => h) (Or.inl ⟨by rfl, ?_⟩) (by assumption) ?_
        rotate_left 1
        · (intro w hSw; (try dsimp only at hSw); have k0 := hSw.cell 0; have k1 := hSw.cell 1; have k2 := hSw.cell 2; have k3 := hSw.cell 3; have k4 := hSw.cell 4; have k5 := hSw.cell 5; have k6 := hSw.cell 6; have k7 := hSw.cell 7; have k8 := hSw.cell 8; have k9 := hSw.cell 9; have k10 := hSw.cell 10; have k11 := hSw.cell 11; clear hSw; simp only [List.getElem?_toArray, List.getElem?_cons_succ, List.getElem?_cons_zero] at k0 k1 k2 k3 k4 k5 k6 k7 k8 k9 k10 k11; go_simp) <;> (with_reducible rfl)
        try simp only [Act.put, List.setIfInBounds_toArray, List.set_cons_zero, List.set_cons_succ]
        refine wpAnyH_take (i := 15) (oi := ⟨some 69, _, _, _, _, _⟩) (v := ?_) rfl (by kernel_rfl) (by kernel_rfl) (by kernel_rfl) (fun _ _ _ h => h) (Or.inl ⟨by rfl, ?_⟩) (by assumption) ?_
        rotate_left 1
        · (intro w hSw; (try dsimp only at hSw); have k0 := hSw.cell 0; have k1 := hSw.cell 1; have k2 := hSw.cell 2; have k3 := hSw.cell 3; have k4 := hSw.cell 4; have k5 := hSw.cell 5; have k6 := hSw.cell 6; have k7 := hSw.cell 7; have k8 := hSw.cell 8; have k9 := hSw.cell 9; have k10 := hSw.cell 10; have k11 := hSw.cell 11; clear hSw; simp only [List.getElem?_toArray, List.getElem?_cons_succ, List.getElem?_cons_zero] at k0 k1 k2 k3 k4 k5 k6 k7 k8 k9 k10 k11; go_simp) <;> (with_reducible rfl)
        try simp only [Act.put, List.setIfInBounds_toArray, List.set_cons_zero, List.set_cons_succ]
        refine wpAnyH_ready (rs := [16]) (by kernel_rfl) (by simp) ?_
        refine AllReadyH.cons (o := ⟨some 70, _, _, _, _, _⟩) rfl (fun K hK => ?_) AllReadyH.nil
        go_simp
        go_at_call 18
        refine HLA.out.mono ?_
        clear HLA hHeld
        rintro e w6 ⟨rfl, hf6⟩
        have HF6 : Hid (Fr NoBlk wa w6) := HF5.out.trans hf6
        clear hf6
        refine hK.out _ _ ?_ (fun hHeld => ?_)
        · exact HSD.out _ HF6.out
        clear hK K
        try simp only [Act.put, List.setIfInBounds_toArray, List.set_cons_zero, List.set_cons_succ]
        refine wpAnyH_take (i := 17) (oi := ⟨some 71, _, _, _, _, _⟩) (v := ?_) rfl (by kernel_rfl) (by kernel_rfl) (by kernel_rfl) (fun _ _ _ h => h) (Or.inl ⟨by rfl, ?_⟩) (by assumption) ?_
        rotate_left 1
        · (intro w hSw; (try dsimp only at hSw); have k0 := hSw.cell 0; have k1 := hSw.cell 1; have k2 := hSw.cell 2; have k3 := hSw.cell 3; have k4 := hSw.cell 4; have k5 := hSw.cell 5; have k6 := hSw.cell 6; have k7 := hSw.cell 7; have k8 := hSw.cell 8; have k9 := hSw.cell 9; have k10 := hSw.cell 10; have k11 := hSw.cell 11; clear hSw; simp only [List.getElem?_toArray, List.getElem?_cons_succ, List.getElem?_cons_zero] at k0 k1 k2 k3 k4 k5 k6 k7 k8 k9 k10 k11; go_simp) <;> (with_reducible rfl)
        try simp only [Act.put, List.setIfInBounds_toArray, List.set_cons_zero, List.set_cons_succ]
        refine wpAnyH_take (i := 18) (oi := ⟨some 72, _, _, _, _, _⟩) (v := ?_) rfl (by kernel_rfl) (by kernel_rfl) (by kernel_rfl) (fun _ _ _ h => h) (Or.inl ⟨by rfl, ?_⟩) (by assumption) ?_
        rotate_left 1
        · (intro w hSw; (try dsimp only at hSw); have k0 := hSw.cell 0; have k1 := hSw.cell 1; have k2 := hSw.cell 2; have k3 := hSw.cell 3; have k4 := hSw.cell 4; have k5 := hSw.cell 5; have k6 := hSw.cell 6; have k7 := hSw.cell 7; have k8 := hSw.cell 8; have k9 := hSw.cell 9; have k10 := hSw.cell 10; have k11 := hSw.cell 11; clear hSw; simp only [List.getElem?_toArray, List.getElem?_cons_succ, List.getElem?_cons_zero] at k0 k1 k2 k3 k4 k5 k6 k7 k8 k9 k10 k11; go_simp) <;> (with_reducible rfl)
        try simp only [Act.put, List.setIfInBounds_toArray, List.set_cons_zero, List.set_cons_succ]
        refine wpAnyH_take (i := 19) (oi := ⟨some 6, _, _, _, _, _⟩) (v := ?_) rfl (by kernel_rfl) (by kernel_rfl) (by kernel_rfl) (fun _ _ _ h => h) (Or.inl ⟨by rfl, ?_⟩) (by assumption) ?_
        rotate_left 1
        · (intro w hSw; (try dsimp only at hSw); have k0 := hSw.cell 0; have k1 := hSw.cell 1; have k2 := hSw.cell 2; have k3 := hSw.cell 3; have k4 := hSw.cell 4; have k5 := hSw.cell 5; have k6 := hSw.cell 6; have k7 := hSw.cell 7; have k8 := hSw.cell 8; have k9 := hSw.cell 9; have k10 := hSw.cell 10; have k11 := hSw.cell 11; clear hSw; simp only [List.getElem?_toArray, List.getElem?_cons_succ, List.getElem?_cons_zero] at k0 k1 k2 k3 k4 k5 k6 k7 k8 k9 k10 k11; go_simp) <;> (with_reducible rfl)
        try simp only [Act.put, List.setIfInBounds_toArray, List.set_cons_zero, List.set_cons_succ]
        refine wpAnyH_done (by kernel_rfl) ?_ _
        go_wp2_with fail
        go_ret
        exact ⟨ret_bool (by rw [HCN.out]; rfl), HFa.out.trans HF6.out⟩
end Go.Proofs.Ythdbpbcllhgeoaa
