/- FilterItems is true: which entries of any region's log count is told exactly. No condition. -/
import Derived.Test.YthdbpbcllhgeoaaLawp
import Derived.Test.YthdbpbcllhgeoaaSpk14
import Derived.Test.YthdbpbcllhgeoaaCnt14
namespace Go.Proofs.Ythdbpbcllhgeoaa.filterItems
open Go.ChangeShapes Go.WideShapes Go.ChangeAt Go.RowKit Go.Maps

theorem ret_had {a b : Bool} (h : a = b) : Value.bool b = Value.bool a := h ▸ rfl
theorem bne_same (b : Bool) : (b != b) = false := by cases b <;> rfl
theorem bne_int (z : Int) : (z != z) = false := by simp

set_option maxRecDepth 100000 in
set_option maxHeartbeats 4000000 in
theorem walk (w : World) (rg : Int) (A : Option Addr) (c : Nat) (xs : List Im) (hr : Rd w A (imsc xs)) (hx : ∀ i ∈ xs, OdIn w i.o ∧ TgOk (tgOf i.o)) (hlc : xs.length ≤ c) (hcm : c ≤ maxLen) :
    Calls Try.prog 3 #[.int .i64 rg, .slice A xs.length c] w fun e w' => e = .returned (.bool true) ∧ Fr NoBlk w w' := by
  have hm : xs.length ≤ 9223372036854775807 := Nat.le_trans hlc hcm
  have HR := Lib.hid hr
  have HX := Lib.hid hx
  clear hr hx
  go_enter Try.func3, Try.ntmps3
  go_wp2_with fail
  refine (speaks_any _).mono ?_
  rintro e w1 ⟨rfl, hf1⟩
  have HF1 := Lib.hid hf1
  clear hf1
  have HG := Lib.hid (great14_any w1 A c xs (HR.out.nofr HF1.out) (fun i hi => (HX.out i hi).1.nofr HF1.out) hm)
  go_wp2_with fail
  refine HG.out.mono ?_
  clear HG
  rintro e w2 ⟨⟨bb, rfl, hgr⟩, hf2⟩
  have HF2 := Lib.hid (HF1.out.trans hf2)
  clear hf2 HF1
  cases bb with
  | true =>
    clear hgr
    go_wp2_with fail
    go_ret
    exact ⟨rfl, HF2.out⟩
  | false =>
  have HLL := Lib.hid (hgr.out rfl).1
  have HMK := Lib.hid (hgr.out rfl).2
  clear hgr
  by_cases h0 : rg < 0
  · go_wp2_with fail
    go_ret
    exact ⟨rfl, HF2.out⟩
  have h0' : (0 : Int) ≤ rg := by omega
  clear h0
  by_cases h2 : 2 < rg
  · go_wp2_with fail
    go_ret
    exact ⟨rfl, HF2.out⟩
  have h2' : rg ≤ (2 : Int) := by omega
  clear h2
  go_wp2_with fail
  refine (fregion_any _ _).mono ?_
  rintro e w3 ⟨g, bm, rfl, h3, hf3⟩
  have HF3 := Lib.hid (HF2.out.trans hf3)
  obtain ⟨B, hB⟩ : ∃ B, B = w2.heap.size := ⟨_, rfl⟩
  have HBB : Hid (w.heap.size ≤ g ∧ w.heap.size ≤ bm) := ⟨Nat.le_trans HF2.out.size h3.b1, Nat.le_trans HF2.out.size h3.b2⟩
  rw [← hB] at h3
  have H3 := Lib.hid h3
  clear hf3 h3 hB HF2
  go_wp2_with fail
  go_loopw [29] (fun z wr => ∃ n : Nat, n ≤ xs.length ∧ z = .int .i64 n ∧ Hid (∃ s, s ≤ n ∧ Fl wr B g bm s rg (laN rg xs n) (mN rg xs n)) ∧ Hid (Fr NoBlk w wr)) (fun z _ => xs.length - (intOf z).toNat)
  case atStart => exact ⟨0, by omega, rfl, ⟨0, Nat.le_refl _, H3.out⟩, HF3.out⟩
  case round =>
    obtain ⟨n, hn, rfl, HFL, HFR⟩ := hrel
    clear H3 HF3
    by_cases hlt : n < xs.length
    · obtain ⟨i, hi⟩ : ∃ i, xs[n]? = some i := ⟨_, List.getElem?_eq_getElem hlt⟩
      obtain ⟨ho1, ho2⟩ := HX.out i (List.mem_of_getElem? hi)
      have hmk := HMK.out i (List.mem_of_getElem? hi)
      obtain ⟨s, hs, fl⟩ := HFL.out
      obtain ⟨Bx, O, hA, hc⟩ := (HR.out.nofr HFR.out).item hi
      have c0 : wr.cell? ⟨Bx, O + n * 12, none⟩ = some (.int .i64 i.kind) := hc 0 _ rfl
      have c1 : wr.cell? ⟨Bx, O + n * 12 + 1, none⟩ = some (.int .i64 i.index) := hc 1 _ rfl
      have c2 : wr.cell? ⟨Bx, O + n * 12 + 2, none⟩ = some (.int .i64 i.o.node) := hc 2 _ rfl
      have c3 : wr.cell? ⟨Bx, O + n * 12 + 3, none⟩ = some (.int .u64 (i.o.epoch : Int)) := hc 3 _ rfl
      have c4 : wr.cell? ⟨Bx, O + n * 12 + 4, none⟩ = some (.int .u64 (i.o.seq : Int)) := hc 4 _ rfl
      have c5 : wr.cell? ⟨Bx, O + n * 12 + 5, none⟩ = some (.int .i64 i.o.tr) := hc 5 _ rfl
      have c6 : wr.cell? ⟨Bx, O + n * 12 + 6, none⟩ = some (.int .i64 i.o.t.kind) := hc 6 _ rfl
      have c7 : wr.cell? ⟨Bx, O + n * 12 + 7, none⟩ = some (.slice i.o.t.ra i.o.t.reads.length i.o.t.rc) := hc 7 _ rfl
      have c8 : wr.cell? ⟨Bx, O + n * 12 + 8, none⟩ = some (.slice i.o.t.wa i.o.t.writes.length i.o.t.wc) := hc 8 _ rfl
      have c9 : wr.cell? ⟨Bx, O + n * 12 + 9, none⟩ = some (.slice i.o.t.oa i.o.t.ops.length i.o.t.oc) := hc 9 _ rfl
      have c10 : wr.cell? ⟨Bx, O + n * 12 + 10, none⟩ = some (.int .i64 i.o.t.to) := hc 10 _ rfl
      have c11 : wr.cell? ⟨Bx, O + n * 12 + 11, none⟩ = some (.slice i.o.ma i.o.marks.length i.o.mc) := hc 11 _ rfl
      have i1 : (0 : Int) ≤ (n : Int) := by omega
      have i2 : (n : Int) < (xs.length : Int) := by omega
      have i5 : (n : Int) ≤ (c : Int) := by omega
      obtain ⟨q, hq⟩ : ∃ q, q = wr.heap.size := ⟨_, rfl⟩
      obtain ⟨wa, hwa⟩ : ∃ wa, wa = wr.alloc (.cells (ima i) 40) := ⟨_, rfl⟩
      have hba : Bk wa q 40 (ima i) := by rw [hwa, hq]; exact Bk.new _ _ _
      obtain ⟨q2, hq2⟩ : ∃ q2, q2 = q + 1 := ⟨_, rfl⟩
      have hsa : q2 = wa.heap.size := by rw [hwa, World.size_alloc, hq2, hq]
      obtain ⟨wb, hwb⟩ : ∃ wb, wb = wa.alloc (.cells #[.int .i64 i.o.node, .int .u64 (i.o.epoch : Int), .int .u64 (i.o.seq : Int), .int .i64 i.o.tr] 31) := ⟨_, rfl⟩
      have hfb : Fr NoBlk wr wb := by rw [hwb, hwa]; exact ((Fr.refl _ _).alloc _).alloc _
      have hbb : Bk wb q 40 (ima i) := by rw [hwb]; exact hba.alloc _
      have hbt : Bk wb q2 31 #[.int .i64 i.o.node, .int .u64 (i.o.epoch : Int), .int .u64 (i.o.seq : Int), .int .i64 i.o.tr] := by rw [hwb, hsa]; exact Bk.new _ _ _
      have HQN : Hid (bm < q ∧ g < q ∧ q < q2) := ⟨by have := fl.mp.lt; omega, by have := fl.bk.lt; omega, by have := hba.lt; omega⟩
      have HSD0 : Hid (∀ W, Fr (fun b => b = bm ∨ b = g) wb W → Bk W q 40 #[.int .i64 i.kind, .int .i64 i.index, .int .i64 i.o.node, .int .u64 (i.o.epoch : Int), .int .u64 (i.o.seq : Int), .int .i64 i.o.tr, .int .i64 i.o.t.kind, .slice i.o.t.ra i.o.t.reads.length i.o.t.rc, .slice i.o.t.wa i.o.t.writes.length i.o.t.wc, .slice i.o.t.oa i.o.t.ops.length i.o.t.oc, .int .i64 i.o.t.to, .slice i.o.ma i.o.marks.length i.o.mc] ∧ Bk W q2 31 #[.int .i64 i.o.node, .int .u64 (i.o.epoch : Int), .int .u64 (i.o.seq : Int), .int .i64 i.o.tr]) := fun W hW => ⟨hbb.fr hW fun e => by have := HQN.out; omega, hbt.fr hW fun e => by have := HQN.out; omega⟩
      have HFLb := Lib.hid (fl.nofr hfb)
      have HFRb := Lib.hid (HFR.out.trans hfb)
      have HSL := Lib.hid hs
      have HTK := Lib.hid ho2
      have HMI := Lib.hid hmk
      have HII := Lib.hid hi
      have HWA := Lib.hid hwa
      have HWB := Lib.hid hwb
      have HQ := Lib.hid hq
      have HQ2 := Lib.hid hq2
      have d0 : wa.cell? ⟨q, 0, none⟩ = some (.int .i64 i.kind) := hba.cell 0
      have d1 : wa.cell? ⟨q, 1, none⟩ = some (.int .i64 i.index) := hba.cell 1
      have d2 : wa.cell? ⟨q, 2, none⟩ = some (.int .i64 i.o.node) := hba.cell 2
      have d3 : wa.cell? ⟨q, 3, none⟩ = some (.int .u64 (i.o.epoch : Int)) := hba.cell 3
      have d4 : wa.cell? ⟨q, 4, none⟩ = some (.int .u64 (i.o.seq : Int)) := hba.cell 4
      have d5 : wa.cell? ⟨q, 5, none⟩ = some (.int .i64 i.o.tr) := hba.cell 5
      have d6 : wa.cell? ⟨q, 6, none⟩ = some (.int .i64 i.o.t.kind) := hba.cell 6
      have d7 : wa.cell? ⟨q, 7, none⟩ = some (.slice i.o.t.ra i.o.t.reads.length i.o.t.rc) := hba.cell 7
      have d8 : wa.cell? ⟨q, 8, none⟩ = some (.slice i.o.t.wa i.o.t.writes.length i.o.t.wc) := hba.cell 8
      have d9 : wa.cell? ⟨q, 9, none⟩ = some (.slice i.o.t.oa i.o.t.ops.length i.o.t.oc) := hba.cell 9
      have d10 : wa.cell? ⟨q, 10, none⟩ = some (.int .i64 i.o.t.to) := hba.cell 10
      have d11 : wa.cell? ⟨q, 11, none⟩ = some (.slice i.o.ma i.o.marks.length i.o.mc) := hba.cell 11
      subst hA
      clear hc hi ho1 ho2 hmk hwa hwb hq hq2 hsa hba hbb hbt hfb fl hs HFL HFR
      unfold ima at HWA
      go_wp2_with fail
      rw [← HWA.out, ← HQ.out]
      clear HWA HQ c0 c1 c2 c3 c4 c5 c6 c7 c8 c9 c10 c11
      rw [← HWB.out, ← HQ2.out]
      clear HWB HQ2 d0 d1 d2 d3 d4 d5 d6 d7 d8 d9 d10 d11
      go_wp2_with fail
      go_loopw [9, 10] (fun hz z wr => ∃ k : Nat, k ≤ n ∧ (hz = .bool (mN rg xs k (tgOf i.o)) ∧ z = .int .i64 k) ∧ Hid (Fr NoBlk wb wr)) (fun _ z _ => n - (intOf z).toNat)
      case atStart => exact ⟨0, by omega, ⟨rfl, rfl⟩, Fr.refl _ _⟩
      case round =>
        obtain ⟨k, hk, ⟨rfl, rfl⟩, HFQ⟩ := hrel
        by_cases hlt2 : k < n
        · obtain ⟨p, hp⟩ : ∃ p, xs[k]? = some p := ⟨_, List.getElem?_eq_getElem (by omega)⟩
          have HJ := Lib.hid (HFRb.out.trans HFQ.out)
          obtain ⟨B2, O2, e2, hcp⟩ := (HR.out.nofr HJ.out).item hp
          injection e2 with e2
          injection e2 with e2 e2' e2''
          subst e2 e2'
          clear e2''
          have HSJ : Hid (∀ W, Fr NoBlk wr W → (∀ j v, (imc p)[j]? = some v → W.cell? ⟨Bx, O + k * 12 + j, none⟩ = some v) ∧ Bk W q2 31 #[.int .i64 i.o.node, .int .u64 (i.o.epoch : Int), .int .u64 (i.o.seq : Int), .int .i64 i.o.tr]) := by
            intro W hW
            obtain ⟨B2, O2, e2, hcp⟩ := (HR.out.nofr (HJ.out.trans hW)).item hp
            injection e2 with e2
            injection e2 with e2 e2' e2''
            subst e2 e2'
            exact ⟨hcp, (HSD0.out _ ((HFQ.out.trans hW).mono fun _ _ e => e.elim)).2⟩
          have i3 : (0 : Int) ≤ (k : Int) := by omega
          have i4 : (k : Int) < (xs.length : Int) := by omega
          have HNE := Lib.hid (mN_or (rg := rg) hp (tgOf i.o))
          obtain ⟨hd, hhd⟩ : ∃ hd, hd = mN rg xs k (tgOf i.o) := ⟨_, rfl⟩
          rw [← hhd] at HNE ⊢
          clear hhd
          cases hd with
          | true =>
            have HNX : Hid (mN rg xs (k + 1) (tgOf i.o) = true) := by show _ = _; rw [HNE.out]; rfl
            clear hcp HSJ HNE hp
            go_wp2_with fail
            go_quiet (fail)
            go_wp2
            go_roundw
            case rel => exact ⟨k + 1, by omega, ⟨ret_had HNX.out, by go_num⟩, HFQ.out.drewN _⟩
            case measure => simp [intOf]; omega
          | false =>
          rw [Bool.false_or] at HNE
          have hq := eqTag (tgOf p.o) (tgOf i.o)
          have hg := (by kernel_rfl : Try.prog.eqGuardType Try.prog.depth 31 = false)
          obtain ⟨b1, hb1⟩ : ∃ b1, b1 = decide (tgOf p.o = tgOf i.o) := ⟨_, rfl⟩
          rw [← hb1] at hq HNE
          clear hb1
          unfold tgv tgOf at hq
          dsimp only at hq
          have HCJ := Lib.hid (counts_any rg _ c xs HLL.out hlc hcm k wr.drew p hp (HR.out.nofr (HJ.out.trans (Fr.refl _ _).drew)) fun x hx => ⟨(HX.out x hx).1.nofr (HJ.out.trans (Fr.refl _ _).drew), HMK.out x hx⟩)
          obtain ⟨cj, hcj⟩ : ∃ cj, cj = countN rg xs k p := ⟨_, rfl⟩
          rw [← hcj] at HCJ HNE
          clear hp hcj
          by_cases hk : p.kind = 1
          rotate_left
          · have hk1 : ((p.kind : Int) == 1) = false := beq_eq_false_iff_ne.2 hk
            have HNX : Hid (mN rg xs (k + 1) (tgOf i.o) = false) := by show _ = _; rw [HNE.out, decide_eq_false hk]; rfl
            have x0 : wr.cell? ⟨Bx, O + k * 12, none⟩ = some (.int .i64 p.kind) := hcp 0 _ rfl
            clear hk hcp HCJ HSJ
            go_wp2_with fail
            go_quiet (fail)
            go_wp2
            go_roundw
            case rel => exact ⟨k + 1, by omega, ⟨ret_had HNX.out, by go_num⟩, HFQ.out.drewN _⟩
            case measure => simp [intOf]; omega
          have hk1 : ((p.kind : Int) == 1) = true := beq_iff_eq.2 hk
          rw [decide_eq_true hk, Bool.true_and] at HNE
          clear hk
          cases b1 with
          | false =>
            have HNX : Hid (mN rg xs (k + 1) (tgOf i.o) = false) := by show _ = _; rw [HNE.out]; rfl
            have x0 : wr.cell? ⟨Bx, O + k * 12, none⟩ = some (.int .i64 p.kind) := hcp 0 _ rfl
            have x2 : wr.cell? ⟨Bx, O + k * 12 + 2, none⟩ = some (.int .i64 p.o.node) := hcp 2 _ rfl
            have x3 : wr.cell? ⟨Bx, O + k * 12 + 3, none⟩ = some (.int .u64 (p.o.epoch : Int)) := hcp 3 _ rfl
            have x4 : wr.cell? ⟨Bx, O + k * 12 + 4, none⟩ = some (.int .u64 (p.o.seq : Int)) := hcp 4 _ rfl
            have x5 : wr.cell? ⟨Bx, O + k * 12 + 5, none⟩ = some (.int .i64 p.o.tr) := hcp 5 _ rfl
            have y3 : wr.cell? ⟨Bx, O + k * 12 + 2 + 1, none⟩ = some (.int .u64 (p.o.epoch : Int)) := hcp 3 _ rfl
            have y4 : wr.cell? ⟨Bx, O + k * 12 + 2 + 2, none⟩ = some (.int .u64 (p.o.seq : Int)) := hcp 4 _ rfl
            have y5 : wr.cell? ⟨Bx, O + k * 12 + 2 + 3, none⟩ = some (.int .i64 p.o.tr) := hcp 5 _ rfl
            have hbt := (HSJ.out _ (Fr.refl _ _)).2
            have d2 : wr.cell? ⟨q2, 0, none⟩ = some (.int .i64 i.o.node) := hbt.cell 0
            have d3 : wr.cell? ⟨q2, 1, none⟩ = some (.int .u64 (i.o.epoch : Int)) := hbt.cell 1
            have d4 : wr.cell? ⟨q2, 2, none⟩ = some (.int .u64 (i.o.seq : Int)) := hbt.cell 2
            have d5 : wr.cell? ⟨q2, 3, none⟩ = some (.int .i64 i.o.tr) := hbt.cell 3
            clear hcp HCJ HSJ hbt
            go_wp2_with fail
            go_quiet (fail)
            go_wp2
            go_roundw
            case rel => exact ⟨k + 1, by omega, ⟨ret_had HNX.out, by go_num⟩, HFQ.out.drewN _⟩
            case measure => simp [intOf]; omega
          | true =>
            rw [Bool.true_and] at HNE
            clear hcp
            go_wp2_with fail
            refine wp_region_held_drew (S := fun w' => (∀ j v, (imc p)[j]? = some v → w'.cell? ⟨Bx, O + k * 12 + j, none⟩ = some v) ∧ Bk w' q2 31 #[.int .i64 i.o.node, .int .u64 (i.o.epoch : Int), .int .u64 (i.o.seq : Int), .int .i64 i.o.tr]) (by kernel_rfl) (HSJ.out _ (Fr.refl _ _).drew) (fun hHeld => ?_)
            cases cj with
            | false =>
              refine wpAnyH_take (i := 0) (oi := ⟨some 42, _, _, _, _, _⟩) (v := ?_) rfl (by kernel_rfl) (by kernel_rfl) (by kernel_rfl) (fun _ _ _ h => h) (Or.inl ⟨by rfl, ?_⟩) (by assumption) ?_
              rotate_left 1
              · (intro w hSw; (try dsimp only at hSw); obtain ⟨hI, hB⟩ := hSw; have k0 : w.cell? ⟨Bx, O + k * 12, none⟩ = some (.int .i64 p.kind) := hI 0 _ rfl; have k2 : w.cell? ⟨Bx, O + k * 12 + 2, none⟩ = some (.int .i64 p.o.node) := hI 2 _ rfl; have k3 : w.cell? ⟨Bx, O + k * 12 + 3, none⟩ = some (.int .u64 (p.o.epoch : Int)) := hI 3 _ rfl; have k4 : w.cell? ⟨Bx, O + k * 12 + 4, none⟩ = some (.int .u64 (p.o.seq : Int)) := hI 4 _ rfl; have k5 : w.cell? ⟨Bx, O + k * 12 + 5, none⟩ = some (.int .i64 p.o.tr) := hI 5 _ rfl; have y3 : w.cell? ⟨Bx, O + k * 12 + 2 + 1, none⟩ = some (.int .u64 (p.o.epoch : Int)) := hI 3 _ rfl; have y4 : w.cell? ⟨Bx, O + k * 12 + 2 + 2, none⟩ = some (.int .u64 (p.o.seq : Int)) := hI 4 _ rfl; have y5 : w.cell? ⟨Bx, O + k * 12 + 2 + 3, none⟩ = some (.int .i64 p.o.tr) := hI 5 _ rfl; have b2 : w.cell? ⟨q2, 0, none⟩ = some (.int .i64 i.o.node) := hB.cell 0; have b3 : w.cell? ⟨q2, 1, none⟩ = some (.int .u64 (i.o.epoch : Int)) := hB.cell 1; have b4 : w.cell? ⟨q2, 2, none⟩ = some (.int .u64 (i.o.seq : Int)) := hB.cell 2; have b5 : w.cell? ⟨q2, 3, none⟩ = some (.int .i64 i.o.tr) := hB.cell 3; clear hI hB; go_simp) <;> (with_reducible rfl)
              try simp only [Act.put, List.setIfInBounds_toArray, List.set_cons_zero, List.set_cons_succ]
              refine wpAnyH_take (i := 1) (oi := ⟨some 43, _, _, _, _, _⟩) (v := ?_) rfl (by kernel_rfl) (by kernel_rfl) (by kernel_rfl) (fun _ _ _ h => h) (Or.inl ⟨by rfl, ?_⟩) (by assumption) ?_
              rotate_left 1
              · (intro w hSw; (try dsimp only at hSw); obtain ⟨hI, hB⟩ := hSw; have k0 : w.cell? ⟨Bx, O + k * 12, none⟩ = some (.int .i64 p.kind) := hI 0 _ rfl; have k2 : w.cell? ⟨Bx, O + k * 12 + 2, none⟩ = some (.int .i64 p.o.node) := hI 2 _ rfl; have k3 : w.cell? ⟨Bx, O + k * 12 + 3, none⟩ = some (.int .u64 (p.o.epoch : Int)) := hI 3 _ rfl; have k4 : w.cell? ⟨Bx, O + k * 12 + 4, none⟩ = some (.int .u64 (p.o.seq : Int)) := hI 4 _ rfl; have k5 : w.cell? ⟨Bx, O + k * 12 + 5, none⟩ = some (.int .i64 p.o.tr) := hI 5 _ rfl; have y3 : w.cell? ⟨Bx, O + k * 12 + 2 + 1, none⟩ = some (.int .u64 (p.o.epoch : Int)) := hI 3 _ rfl; have y4 : w.cell? ⟨Bx, O + k * 12 + 2 + 2, none⟩ = some (.int .u64 (p.o.seq : Int)) := hI 4 _ rfl; have y5 : w.cell? ⟨Bx, O + k * 12 + 2 + 3, none⟩ = some (.int .i64 p.o.tr) := hI 5 _ rfl; have b2 : w.cell? ⟨q2, 0, none⟩ = some (.int .i64 i.o.node) := hB.cell 0; have b3 : w.cell? ⟨q2, 1, none⟩ = some (.int .u64 (i.o.epoch : Int)) := hB.cell 1; have b4 : w.cell? ⟨q2, 2, none⟩ = some (.int .u64 (i.o.seq : Int)) := hB.cell 2; have b5 : w.cell? ⟨q2, 3, none⟩ = some (.int .i64 i.o.tr) := hB.cell 3; clear hI hB; go_simp) <;> (with_reducible rfl)
              try simp only [Act.put, List.setIfInBounds_toArray, List.set_cons_zero, List.set_cons_succ]
              refine wpAnyH_take (i := 2) (oi := ⟨some 44, _, _, _, _, _⟩) (v := ?_) rfl (by kernel_rfl) (by kernel_rfl) (by kernel_rfl) (fun _ _ _ h => h) (Or.inl ⟨by rfl, ?_⟩) (by assumption) ?_
              rotate_left 1
              · (intro w hSw; (try dsimp only at hSw); obtain ⟨hI, hB⟩ := hSw; have k0 : w.cell? ⟨Bx, O + k * 12, none⟩ = some (.int .i64 p.kind) := hI 0 _ rfl; have k2 : w.cell? ⟨Bx, O + k * 12 + 2, none⟩ = some (.int .i64 p.o.node) := hI 2 _ rfl; have k3 : w.cell? ⟨Bx, O + k * 12 + 3, none⟩ = some (.int .u64 (p.o.epoch : Int)) := hI 3 _ rfl; have k4 : w.cell? ⟨Bx, O + k * 12 + 4, none⟩ = some (.int .u64 (p.o.seq : Int)) := hI 4 _ rfl; have k5 : w.cell? ⟨Bx, O + k * 12 + 5, none⟩ = some (.int .i64 p.o.tr) := hI 5 _ rfl; have y3 : w.cell? ⟨Bx, O + k * 12 + 2 + 1, none⟩ = some (.int .u64 (p.o.epoch : Int)) := hI 3 _ rfl; have y4 : w.cell? ⟨Bx, O + k * 12 + 2 + 2, none⟩ = some (.int .u64 (p.o.seq : Int)) := hI 4 _ rfl; have y5 : w.cell? ⟨Bx, O + k * 12 + 2 + 3, none⟩ = some (.int .i64 p.o.tr) := hI 5 _ rfl; have b2 : w.cell? ⟨q2, 0, none⟩ = some (.int .i64 i.o.node) := hB.cell 0; have b3 : w.cell? ⟨q2, 1, none⟩ = some (.int .u64 (i.o.epoch : Int)) := hB.cell 1; have b4 : w.cell? ⟨q2, 2, none⟩ = some (.int .u64 (i.o.seq : Int)) := hB.cell 2; have b5 : w.cell? ⟨q2, 3, none⟩ = some (.int .i64 i.o.tr) := hB.cell 3; clear hI hB; go_simp) <;> (with_reducible rfl)
              try simp only [Act.put, List.setIfInBounds_toArray, List.set_cons_zero, List.set_cons_succ]
              refine wpAnyH_take (i := 3) (oi := ⟨some 45, _, _, _, _, _⟩) (v := ?_) rfl (by kernel_rfl) (by kernel_rfl) (by kernel_rfl) (fun _ _ _ h => h) (Or.inl ⟨by rfl, ?_⟩) (by assumption) ?_
              rotate_left 1
              · (intro w hSw; (try dsimp only at hSw); obtain ⟨hI, hB⟩ := hSw; have k0 : w.cell? ⟨Bx, O + k * 12, none⟩ = some (.int .i64 p.kind) := hI 0 _ rfl; have k2 : w.cell? ⟨Bx, O + k * 12 + 2, none⟩ = some (.int .i64 p.o.node) := hI 2 _ rfl; have k3 : w.cell? ⟨Bx, O + k * 12 + 3, none⟩ = some (.int .u64 (p.o.epoch : Int)) := hI 3 _ rfl; have k4 : w.cell? ⟨Bx, O + k * 12 + 4, none⟩ = some (.int .u64 (p.o.seq : Int)) := hI 4 _ rfl; have k5 : w.cell? ⟨Bx, O + k * 12 + 5, none⟩ = some (.int .i64 p.o.tr) := hI 5 _ rfl; have y3 : w.cell? ⟨Bx, O + k * 12 + 2 + 1, none⟩ = some (.int .u64 (p.o.epoch : Int)) := hI 3 _ rfl; have y4 : w.cell? ⟨Bx, O + k * 12 + 2 + 2, none⟩ = some (.int .u64 (p.o.seq : Int)) := hI 4 _ rfl; have y5 : w.cell? ⟨Bx, O + k * 12 + 2 + 3, none⟩ = some (.int .i64 p.o.tr) := hI 5 _ rfl; have b2 : w.cell? ⟨q2, 0, none⟩ = some (.int .i64 i.o.node) := hB.cell 0; have b3 : w.cell? ⟨q2, 1, none⟩ = some (.int .u64 (i.o.epoch : Int)) := hB.cell 1; have b4 : w.cell? ⟨q2, 2, none⟩ = some (.int .u64 (i.o.seq : Int)) := hB.cell 2; have b5 : w.cell? ⟨q2, 3, none⟩ = some (.int .i64 i.o.tr) := hB.cell 3; clear hI hB; go_simp) <;> (with_reducible rfl)
              try simp only [Act.put, List.setIfInBounds_toArray, List.set_cons_zero, List.set_cons_succ]
              refine wpAnyH_take (i := 4) (oi := ⟨some 46, _, _, _, _, _⟩) (v := ?_) rfl (by kernel_rfl) (by kernel_rfl) (by kernel_rfl) (fun _ _ _ h => h) (Or.inl ⟨by rfl, ?_⟩) (by assumption) ?_
              rotate_left 1
              · (intro w hSw; (try dsimp only at hSw); obtain ⟨hI, hB⟩ := hSw; have k0 : w.cell? ⟨Bx, O + k * 12, none⟩ = some (.int .i64 p.kind) := hI 0 _ rfl; have k2 : w.cell? ⟨Bx, O + k * 12 + 2, none⟩ = some (.int .i64 p.o.node) := hI 2 _ rfl; have k3 : w.cell? ⟨Bx, O + k * 12 + 3, none⟩ = some (.int .u64 (p.o.epoch : Int)) := hI 3 _ rfl; have k4 : w.cell? ⟨Bx, O + k * 12 + 4, none⟩ = some (.int .u64 (p.o.seq : Int)) := hI 4 _ rfl; have k5 : w.cell? ⟨Bx, O + k * 12 + 5, none⟩ = some (.int .i64 p.o.tr) := hI 5 _ rfl; have y3 : w.cell? ⟨Bx, O + k * 12 + 2 + 1, none⟩ = some (.int .u64 (p.o.epoch : Int)) := hI 3 _ rfl; have y4 : w.cell? ⟨Bx, O + k * 12 + 2 + 2, none⟩ = some (.int .u64 (p.o.seq : Int)) := hI 4 _ rfl; have y5 : w.cell? ⟨Bx, O + k * 12 + 2 + 3, none⟩ = some (.int .i64 p.o.tr) := hI 5 _ rfl; have b2 : w.cell? ⟨q2, 0, none⟩ = some (.int .i64 i.o.node) := hB.cell 0; have b3 : w.cell? ⟨q2, 1, none⟩ = some (.int .u64 (i.o.epoch : Int)) := hB.cell 1; have b4 : w.cell? ⟨q2, 2, none⟩ = some (.int .u64 (i.o.seq : Int)) := hB.cell 2; have b5 : w.cell? ⟨q2, 3, none⟩ = some (.int .i64 i.o.tr) := hB.cell 3; clear hI hB; go_simp) <;> (with_reducible rfl)
              try simp only [Act.put, List.setIfInBounds_toArray, List.set_cons_zero, List.set_cons_succ]
              refine wpAnyH_take (i := 5) (oi := ⟨some 47, _, _, _, _, _⟩) (v := ?_) rfl (by kernel_rfl) (by kernel_rfl) (by kernel_rfl) (fun _ _ _ h => h) (Or.inl ⟨by rfl, ?_⟩) (by assumption) ?_
              rotate_left 1
              · (intro w hSw; (try dsimp only at hSw); obtain ⟨hI, hB⟩ := hSw; have k0 : w.cell? ⟨Bx, O + k * 12, none⟩ = some (.int .i64 p.kind) := hI 0 _ rfl; have k2 : w.cell? ⟨Bx, O + k * 12 + 2, none⟩ = some (.int .i64 p.o.node) := hI 2 _ rfl; have k3 : w.cell? ⟨Bx, O + k * 12 + 3, none⟩ = some (.int .u64 (p.o.epoch : Int)) := hI 3 _ rfl; have k4 : w.cell? ⟨Bx, O + k * 12 + 4, none⟩ = some (.int .u64 (p.o.seq : Int)) := hI 4 _ rfl; have k5 : w.cell? ⟨Bx, O + k * 12 + 5, none⟩ = some (.int .i64 p.o.tr) := hI 5 _ rfl; have y3 : w.cell? ⟨Bx, O + k * 12 + 2 + 1, none⟩ = some (.int .u64 (p.o.epoch : Int)) := hI 3 _ rfl; have y4 : w.cell? ⟨Bx, O + k * 12 + 2 + 2, none⟩ = some (.int .u64 (p.o.seq : Int)) := hI 4 _ rfl; have y5 : w.cell? ⟨Bx, O + k * 12 + 2 + 3, none⟩ = some (.int .i64 p.o.tr) := hI 5 _ rfl; have b2 : w.cell? ⟨q2, 0, none⟩ = some (.int .i64 i.o.node) := hB.cell 0; have b3 : w.cell? ⟨q2, 1, none⟩ = some (.int .u64 (i.o.epoch : Int)) := hB.cell 1; have b4 : w.cell? ⟨q2, 2, none⟩ = some (.int .u64 (i.o.seq : Int)) := hB.cell 2; have b5 : w.cell? ⟨q2, 3, none⟩ = some (.int .i64 i.o.tr) := hB.cell 3; clear hI hB; go_simp) <;> (with_reducible rfl)
              try simp only [Act.put, List.setIfInBounds_toArray, List.set_cons_zero, List.set_cons_succ]
              refine wpAnyH_take (i := 6) (oi := ⟨some 48, _, _, _, _, _⟩) (v := ?_) rfl (by kernel_rfl) (by kernel_rfl) (by kernel_rfl) (fun _ _ _ h => h) (Or.inl ⟨by rfl, ?_⟩) (by assumption) ?_
              rotate_left 1
              · (intro w hSw; (try dsimp only at hSw); obtain ⟨hI, hB⟩ := hSw; have k0 : w.cell? ⟨Bx, O + k * 12, none⟩ = some (.int .i64 p.kind) := hI 0 _ rfl; have k2 : w.cell? ⟨Bx, O + k * 12 + 2, none⟩ = some (.int .i64 p.o.node) := hI 2 _ rfl; have k3 : w.cell? ⟨Bx, O + k * 12 + 3, none⟩ = some (.int .u64 (p.o.epoch : Int)) := hI 3 _ rfl; have k4 : w.cell? ⟨Bx, O + k * 12 + 4, none⟩ = some (.int .u64 (p.o.seq : Int)) := hI 4 _ rfl; have k5 : w.cell? ⟨Bx, O + k * 12 + 5, none⟩ = some (.int .i64 p.o.tr) := hI 5 _ rfl; have y3 : w.cell? ⟨Bx, O + k * 12 + 2 + 1, none⟩ = some (.int .u64 (p.o.epoch : Int)) := hI 3 _ rfl; have y4 : w.cell? ⟨Bx, O + k * 12 + 2 + 2, none⟩ = some (.int .u64 (p.o.seq : Int)) := hI 4 _ rfl; have y5 : w.cell? ⟨Bx, O + k * 12 + 2 + 3, none⟩ = some (.int .i64 p.o.tr) := hI 5 _ rfl; have b2 : w.cell? ⟨q2, 0, none⟩ = some (.int .i64 i.o.node) := hB.cell 0; have b3 : w.cell? ⟨q2, 1, none⟩ = some (.int .u64 (i.o.epoch : Int)) := hB.cell 1; have b4 : w.cell? ⟨q2, 2, none⟩ = some (.int .u64 (i.o.seq : Int)) := hB.cell 2; have b5 : w.cell? ⟨q2, 3, none⟩ = some (.int .i64 i.o.tr) := hB.cell 3; clear hI hB; go_simp) <;> (with_reducible rfl)
              try simp only [Act.put, List.setIfInBounds_toArray, List.set_cons_zero, List.set_cons_succ]
              refine wpAnyH_take (i := 7) (oi := ⟨some 49, _, _, _, _, _⟩) (v := ?_) rfl (by kernel_rfl) (by kernel_rfl) (by kernel_rfl) (fun _ _ _ h => h) (Or.inl ⟨by rfl, ?_⟩) (by assumption) ?_
              rotate_left 1
              · (intro w hSw; (try dsimp only at hSw); obtain ⟨hI, hB⟩ := hSw; have k0 : w.cell? ⟨Bx, O + k * 12, none⟩ = some (.int .i64 p.kind) := hI 0 _ rfl; have k2 : w.cell? ⟨Bx, O + k * 12 + 2, none⟩ = some (.int .i64 p.o.node) := hI 2 _ rfl; have k3 : w.cell? ⟨Bx, O + k * 12 + 3, none⟩ = some (.int .u64 (p.o.epoch : Int)) := hI 3 _ rfl; have k4 : w.cell? ⟨Bx, O + k * 12 + 4, none⟩ = some (.int .u64 (p.o.seq : Int)) := hI 4 _ rfl; have k5 : w.cell? ⟨Bx, O + k * 12 + 5, none⟩ = some (.int .i64 p.o.tr) := hI 5 _ rfl; have y3 : w.cell? ⟨Bx, O + k * 12 + 2 + 1, none⟩ = some (.int .u64 (p.o.epoch : Int)) := hI 3 _ rfl; have y4 : w.cell? ⟨Bx, O + k * 12 + 2 + 2, none⟩ = some (.int .u64 (p.o.seq : Int)) := hI 4 _ rfl; have y5 : w.cell? ⟨Bx, O + k * 12 + 2 + 3, none⟩ = some (.int .i64 p.o.tr) := hI 5 _ rfl; have b2 : w.cell? ⟨q2, 0, none⟩ = some (.int .i64 i.o.node) := hB.cell 0; have b3 : w.cell? ⟨q2, 1, none⟩ = some (.int .u64 (i.o.epoch : Int)) := hB.cell 1; have b4 : w.cell? ⟨q2, 2, none⟩ = some (.int .u64 (i.o.seq : Int)) := hB.cell 2; have b5 : w.cell? ⟨q2, 3, none⟩ = some (.int .i64 i.o.tr) := hB.cell 3; clear hI hB; go_simp) <;> (with_reducible rfl)
              try simp only [Act.put, List.setIfInBounds_toArray, List.set_cons_zero, List.set_cons_succ]
              refine wpAnyH_take (i := 8) (oi := ⟨some 50, _, _, _, _, _⟩) (v := ?_) rfl (by kernel_rfl) (by kernel_rfl) (by kernel_rfl) (fun _ _ _ h => h) (Or.inl ⟨by rfl, ?_⟩) (by assumption) ?_
              rotate_left 1
              · (intro w hSw; (try dsimp only at hSw); obtain ⟨hI, hB⟩ := hSw; have k0 : w.cell? ⟨Bx, O + k * 12, none⟩ = some (.int .i64 p.kind) := hI 0 _ rfl; have k2 : w.cell? ⟨Bx, O + k * 12 + 2, none⟩ = some (.int .i64 p.o.node) := hI 2 _ rfl; have k3 : w.cell? ⟨Bx, O + k * 12 + 3, none⟩ = some (.int .u64 (p.o.epoch : Int)) := hI 3 _ rfl; have k4 : w.cell? ⟨Bx, O + k * 12 + 4, none⟩ = some (.int .u64 (p.o.seq : Int)) := hI 4 _ rfl; have k5 : w.cell? ⟨Bx, O + k * 12 + 5, none⟩ = some (.int .i64 p.o.tr) := hI 5 _ rfl; have y3 : w.cell? ⟨Bx, O + k * 12 + 2 + 1, none⟩ = some (.int .u64 (p.o.epoch : Int)) := hI 3 _ rfl; have y4 : w.cell? ⟨Bx, O + k * 12 + 2 + 2, none⟩ = some (.int .u64 (p.o.seq : Int)) := hI 4 _ rfl; have y5 : w.cell? ⟨Bx, O + k * 12 + 2 + 3, none⟩ = some (.int .i64 p.o.tr) := hI 5 _ rfl; have b2 : w.cell? ⟨q2, 0, none⟩ = some (.int .i64 i.o.node) := hB.cell 0; have b3 : w.cell? ⟨q2, 1, none⟩ = some (.int .u64 (i.o.epoch : Int)) := hB.cell 1; have b4 : w.cell? ⟨q2, 2, none⟩ = some (.int .u64 (i.o.seq : Int)) := hB.cell 2; have b5 : w.cell? ⟨q2, 3, none⟩ = some (.int .i64 i.o.tr) := hB.cell 3; clear hI hB; go_simp) <;> (with_reducible rfl)
              try simp only [Act.put, List.setIfInBounds_toArray, List.set_cons_zero, List.set_cons_succ]
              refine wpAnyH_take (i := 9) (oi := ⟨some 51, _, _, _, _, _⟩) (v := ?_) rfl (by kernel_rfl) (by kernel_rfl) (by kernel_rfl) (fun _ _ _ h => h) (Or.inl ⟨by rfl, ?_⟩) (by assumption) ?_
              rotate_left 1
              · (intro w hSw; (try dsimp only at hSw); obtain ⟨hI, hB⟩ := hSw; have k0 : w.cell? ⟨Bx, O + k * 12, none⟩ = some (.int .i64 p.kind) := hI 0 _ rfl; have k2 : w.cell? ⟨Bx, O + k * 12 + 2, none⟩ = some (.int .i64 p.o.node) := hI 2 _ rfl; have k3 : w.cell? ⟨Bx, O + k * 12 + 3, none⟩ = some (.int .u64 (p.o.epoch : Int)) := hI 3 _ rfl; have k4 : w.cell? ⟨Bx, O + k * 12 + 4, none⟩ = some (.int .u64 (p.o.seq : Int)) := hI 4 _ rfl; have k5 : w.cell? ⟨Bx, O + k * 12 + 5, none⟩ = some (.int .i64 p.o.tr) := hI 5 _ rfl; have y3 : w.cell? ⟨Bx, O + k * 12 + 2 + 1, none⟩ = some (.int .u64 (p.o.epoch : Int)) := hI 3 _ rfl; have y4 : w.cell? ⟨Bx, O + k * 12 + 2 + 2, none⟩ = some (.int .u64 (p.o.seq : Int)) := hI 4 _ rfl; have y5 : w.cell? ⟨Bx, O + k * 12 + 2 + 3, none⟩ = some (.int .i64 p.o.tr) := hI 5 _ rfl; have b2 : w.cell? ⟨q2, 0, none⟩ = some (.int .i64 i.o.node) := hB.cell 0; have b3 : w.cell? ⟨q2, 1, none⟩ = some (.int .u64 (i.o.epoch : Int)) := hB.cell 1; have b4 : w.cell? ⟨q2, 2, none⟩ = some (.int .u64 (i.o.seq : Int)) := hB.cell 2; have b5 : w.cell? ⟨q2, 3, none⟩ = some (.int .i64 i.o.tr) := hB.cell 3; clear hI hB; go_simp) <;> (with_reducible rfl)
              try simp only [Act.put, List.setIfInBounds_toArray, List.set_cons_zero, List.set_cons_succ]
              refine wpAnyH_take (i := 10) (oi := ⟨some 52, _, _, _, _, _⟩) (v := ?_) rfl (by kernel_rfl) (by kernel_rfl) (by kernel_rfl) (fun _ _ _ h => h) (Or.inl ⟨by rfl, ?_⟩) (by assumption) ?_
              rotate_left 1
              · (intro w hSw; (try dsimp only at hSw); obtain ⟨hI, hB⟩ := hSw; have k0 : w.cell? ⟨Bx, O + k * 12, none⟩ = some (.int .i64 p.kind) := hI 0 _ rfl; have k2 : w.cell? ⟨Bx, O + k * 12 + 2, none⟩ = some (.int .i64 p.o.node) := hI 2 _ rfl; have k3 : w.cell? ⟨Bx, O + k * 12 + 3, none⟩ = some (.int .u64 (p.o.epoch : Int)) := hI 3 _ rfl; have k4 : w.cell? ⟨Bx, O + k * 12 + 4, none⟩ = some (.int .u64 (p.o.seq : Int)) := hI 4 _ rfl; have k5 : w.cell? ⟨Bx, O + k * 12 + 5, none⟩ = some (.int .i64 p.o.tr) := hI 5 _ rfl; have y3 : w.cell? ⟨Bx, O + k * 12 + 2 + 1, none⟩ = some (.int .u64 (p.o.epoch : Int)) := hI 3 _ rfl; have y4 : w.cell? ⟨Bx, O + k * 12 + 2 + 2, none⟩ = some (.int .u64 (p.o.seq : Int)) := hI 4 _ rfl; have y5 : w.cell? ⟨Bx, O + k * 12 + 2 + 3, none⟩ = some (.int .i64 p.o.tr) := hI 5 _ rfl; have b2 : w.cell? ⟨q2, 0, none⟩ = some (.int .i64 i.o.node) := hB.cell 0; have b3 : w.cell? ⟨q2, 1, none⟩ = some (.int .u64 (i.o.epoch : Int)) := hB.cell 1; have b4 : w.cell? ⟨q2, 2, none⟩ = some (.int .u64 (i.o.seq : Int)) := hB.cell 2; have b5 : w.cell? ⟨q2, 3, none⟩ = some (.int .i64 i.o.tr) := hB.cell 3; clear hI hB; go_simp) <;> (with_reducible rfl)
              try simp only [Act.put, List.setIfInBounds_toArray, List.set_cons_zero, List.set_cons_succ]
              refine wpAnyH_take (i := 11) (oi := ⟨some 53, _, _, _, _, _⟩) (v := ?_) rfl (by kernel_rfl) (by kernel_rfl) (by kernel_rfl) (fun _ _ _ h => h) (Or.inl ⟨by rfl, ?_⟩) (by assumption) ?_
              rotate_left 1
              · (intro w hSw; (try dsimp only at hSw); obtain ⟨hI, hB⟩ := hSw; have k0 : w.cell? ⟨Bx, O + k * 12, none⟩ = some (.int .i64 p.kind) := hI 0 _ rfl; have k2 : w.cell? ⟨Bx, O + k * 12 + 2, none⟩ = some (.int .i64 p.o.node) := hI 2 _ rfl; have k3 : w.cell? ⟨Bx, O + k * 12 + 3, none⟩ = some (.int .u64 (p.o.epoch : Int)) := hI 3 _ rfl; have k4 : w.cell? ⟨Bx, O + k * 12 + 4, none⟩ = some (.int .u64 (p.o.seq : Int)) := hI 4 _ rfl; have k5 : w.cell? ⟨Bx, O + k * 12 + 5, none⟩ = some (.int .i64 p.o.tr) := hI 5 _ rfl; have y3 : w.cell? ⟨Bx, O + k * 12 + 2 + 1, none⟩ = some (.int .u64 (p.o.epoch : Int)) := hI 3 _ rfl; have y4 : w.cell? ⟨Bx, O + k * 12 + 2 + 2, none⟩ = some (.int .u64 (p.o.seq : Int)) := hI 4 _ rfl; have y5 : w.cell? ⟨Bx, O + k * 12 + 2 + 3, none⟩ = some (.int .i64 p.o.tr) := hI 5 _ rfl; have b2 : w.cell? ⟨q2, 0, none⟩ = some (.int .i64 i.o.node) := hB.cell 0; have b3 : w.cell? ⟨q2, 1, none⟩ = some (.int .u64 (i.o.epoch : Int)) := hB.cell 1; have b4 : w.cell? ⟨q2, 2, none⟩ = some (.int .u64 (i.o.seq : Int)) := hB.cell 2; have b5 : w.cell? ⟨q2, 3, none⟩ = some (.int .i64 i.o.tr) := hB.cell 3; clear hI hB; go_simp) <;> (with_reducible rfl)
              try simp only [Act.put, List.setIfInBounds_toArray, List.set_cons_zero, List.set_cons_succ]
              refine wpAnyH_take (i := 12) (oi := ⟨some 54, _, _, _, _, _⟩) (v := ?_) rfl (by kernel_rfl) (by kernel_rfl) (by kernel_rfl) (fun _ _ _ h => h) (Or.inl ⟨by rfl, ?_⟩) (by assumption) ?_
              rotate_left 1
              · (intro w hSw; (try dsimp only at hSw); obtain ⟨hI, hB⟩ := hSw; have k0 : w.cell? ⟨Bx, O + k * 12, none⟩ = some (.int .i64 p.kind) := hI 0 _ rfl; have k2 : w.cell? ⟨Bx, O + k * 12 + 2, none⟩ = some (.int .i64 p.o.node) := hI 2 _ rfl; have k3 : w.cell? ⟨Bx, O + k * 12 + 3, none⟩ = some (.int .u64 (p.o.epoch : Int)) := hI 3 _ rfl; have k4 : w.cell? ⟨Bx, O + k * 12 + 4, none⟩ = some (.int .u64 (p.o.seq : Int)) := hI 4 _ rfl; have k5 : w.cell? ⟨Bx, O + k * 12 + 5, none⟩ = some (.int .i64 p.o.tr) := hI 5 _ rfl; have y3 : w.cell? ⟨Bx, O + k * 12 + 2 + 1, none⟩ = some (.int .u64 (p.o.epoch : Int)) := hI 3 _ rfl; have y4 : w.cell? ⟨Bx, O + k * 12 + 2 + 2, none⟩ = some (.int .u64 (p.o.seq : Int)) := hI 4 _ rfl; have y5 : w.cell? ⟨Bx, O + k * 12 + 2 + 3, none⟩ = some (.int .i64 p.o.tr) := hI 5 _ rfl; have b2 : w.cell? ⟨q2, 0, none⟩ = some (.int .i64 i.o.node) := hB.cell 0; have b3 : w.cell? ⟨q2, 1, none⟩ = some (.int .u64 (i.o.epoch : Int)) := hB.cell 1; have b4 : w.cell? ⟨q2, 2, none⟩ = some (.int .u64 (i.o.seq : Int)) := hB.cell 2; have b5 : w.cell? ⟨q2, 3, none⟩ = some (.int .i64 i.o.tr) := hB.cell 3; clear hI hB; go_simp) <;> (with_reducible rfl)
              try simp only [Act.put, List.setIfInBounds_toArray, List.set_cons_zero, List.set_cons_succ]
              refine wpAnyH_take (i := 13) (oi := ⟨some 55, _, _, _, _, _⟩) (v := ?_) rfl (by kernel_rfl) (by kernel_rfl) (by kernel_rfl) (fun _ _ _ h => h) (Or.inl ⟨by rfl, ?_⟩) (by assumption) ?_
              rotate_left 1
              · (intro w hSw; (try dsimp only at hSw); obtain ⟨hI, hB⟩ := hSw; have k0 : w.cell? ⟨Bx, O + k * 12, none⟩ = some (.int .i64 p.kind) := hI 0 _ rfl; have k2 : w.cell? ⟨Bx, O + k * 12 + 2, none⟩ = some (.int .i64 p.o.node) := hI 2 _ rfl; have k3 : w.cell? ⟨Bx, O + k * 12 + 3, none⟩ = some (.int .u64 (p.o.epoch : Int)) := hI 3 _ rfl; have k4 : w.cell? ⟨Bx, O + k * 12 + 4, none⟩ = some (.int .u64 (p.o.seq : Int)) := hI 4 _ rfl; have k5 : w.cell? ⟨Bx, O + k * 12 + 5, none⟩ = some (.int .i64 p.o.tr) := hI 5 _ rfl; have y3 : w.cell? ⟨Bx, O + k * 12 + 2 + 1, none⟩ = some (.int .u64 (p.o.epoch : Int)) := hI 3 _ rfl; have y4 : w.cell? ⟨Bx, O + k * 12 + 2 + 2, none⟩ = some (.int .u64 (p.o.seq : Int)) := hI 4 _ rfl; have y5 : w.cell? ⟨Bx, O + k * 12 + 2 + 3, none⟩ = some (.int .i64 p.o.tr) := hI 5 _ rfl; have b2 : w.cell? ⟨q2, 0, none⟩ = some (.int .i64 i.o.node) := hB.cell 0; have b3 : w.cell? ⟨q2, 1, none⟩ = some (.int .u64 (i.o.epoch : Int)) := hB.cell 1; have b4 : w.cell? ⟨q2, 2, none⟩ = some (.int .u64 (i.o.seq : Int)) := hB.cell 2; have b5 : w.cell? ⟨q2, 3, none⟩ = some (.int .i64 i.o.tr) := hB.cell 3; clear hI hB; go_simp) <;> (with_reducible rfl)
              try simp only [Act.put, List.setIfInBounds_toArray, List.set_cons_zero, List.set_cons_succ]
              refine wpAnyH_take (i := 14) (oi := ⟨some 56, _, _, _, _, _⟩) (v := ?_) rfl (by kernel_rfl) (by kernel_rfl) (by kernel_rfl) (fun _ _ _ h => h) (Or.inl ⟨by rfl, ?_⟩) (by assumption) ?_
              rotate_left 1
              · (intro w hSw; (try dsimp only at hSw); obtain ⟨hI, hB⟩ := hSw; have k0 : w.cell? ⟨Bx, O + k * 12, none⟩ = some (.int .i64 p.kind) := hI 0 _ rfl; have k2 : w.cell? ⟨Bx, O + k * 12 + 2, none⟩ = some (.int .i64 p.o.node) := hI 2 _ rfl; have k3 : w.cell? ⟨Bx, O + k * 12 + 3, none⟩ = some (.int .u64 (p.o.epoch : Int)) := hI 3 _ rfl; have k4 : w.cell? ⟨Bx, O + k * 12 + 4, none⟩ = some (.int .u64 (p.o.seq : Int)) := hI 4 _ rfl; have k5 : w.cell? ⟨Bx, O + k * 12 + 5, none⟩ = some (.int .i64 p.o.tr) := hI 5 _ rfl; have y3 : w.cell? ⟨Bx, O + k * 12 + 2 + 1, none⟩ = some (.int .u64 (p.o.epoch : Int)) := hI 3 _ rfl; have y4 : w.cell? ⟨Bx, O + k * 12 + 2 + 2, none⟩ = some (.int .u64 (p.o.seq : Int)) := hI 4 _ rfl; have y5 : w.cell? ⟨Bx, O + k * 12 + 2 + 3, none⟩ = some (.int .i64 p.o.tr) := hI 5 _ rfl; have b2 : w.cell? ⟨q2, 0, none⟩ = some (.int .i64 i.o.node) := hB.cell 0; have b3 : w.cell? ⟨q2, 1, none⟩ = some (.int .u64 (i.o.epoch : Int)) := hB.cell 1; have b4 : w.cell? ⟨q2, 2, none⟩ = some (.int .u64 (i.o.seq : Int)) := hB.cell 2; have b5 : w.cell? ⟨q2, 3, none⟩ = some (.int .i64 i.o.tr) := hB.cell 3; clear hI hB; go_simp) <;> (with_reducible rfl)
              try simp only [Act.put, List.setIfInBounds_toArray, List.set_cons_zero, List.set_cons_succ]
              refine wpAnyH_take (i := 15) (oi := ⟨some 57, _, _, _, _, _⟩) (v := ?_) rfl (by kernel_rfl) (by kernel_rfl) (by kernel_rfl) (fun _ _ _ h => h) (Or.inl ⟨by rfl, ?_⟩) (by assumption) ?_
              rotate_left 1
              · (intro w hSw; (try dsimp only at hSw); obtain ⟨hI, hB⟩ := hSw; have k0 : w.cell? ⟨Bx, O + k * 12, none⟩ = some (.int .i64 p.kind) := hI 0 _ rfl; have k2 : w.cell? ⟨Bx, O + k * 12 + 2, none⟩ = some (.int .i64 p.o.node) := hI 2 _ rfl; have k3 : w.cell? ⟨Bx, O + k * 12 + 3, none⟩ = some (.int .u64 (p.o.epoch : Int)) := hI 3 _ rfl; have k4 : w.cell? ⟨Bx, O + k * 12 + 4, none⟩ = some (.int .u64 (p.o.seq : Int)) := hI 4 _ rfl; have k5 : w.cell? ⟨Bx, O + k * 12 + 5, none⟩ = some (.int .i64 p.o.tr) := hI 5 _ rfl; have y3 : w.cell? ⟨Bx, O + k * 12 + 2 + 1, none⟩ = some (.int .u64 (p.o.epoch : Int)) := hI 3 _ rfl; have y4 : w.cell? ⟨Bx, O + k * 12 + 2 + 2, none⟩ = some (.int .u64 (p.o.seq : Int)) := hI 4 _ rfl; have y5 : w.cell? ⟨Bx, O + k * 12 + 2 + 3, none⟩ = some (.int .i64 p.o.tr) := hI 5 _ rfl; have b2 : w.cell? ⟨q2, 0, none⟩ = some (.int .i64 i.o.node) := hB.cell 0; have b3 : w.cell? ⟨q2, 1, none⟩ = some (.int .u64 (i.o.epoch : Int)) := hB.cell 1; have b4 : w.cell? ⟨q2, 2, none⟩ = some (.int .u64 (i.o.seq : Int)) := hB.cell 2; have b5 : w.cell? ⟨q2, 3, none⟩ = some (.int .i64 i.o.tr) := hB.cell 3; clear hI hB; go_simp) <;> (with_reducible rfl)
              try simp only [Act.put, List.setIfInBounds_toArray, List.set_cons_zero, List.set_cons_succ]
              refine wpAnyH_take (i := 16) (oi := ⟨some 58, _, _, _, _, _⟩) (v := ?_) rfl (by kernel_rfl) (by kernel_rfl) (by kernel_rfl) (fun _ _ _ h => h) (Or.inl ⟨by rfl, ?_⟩) (by assumption) ?_
              rotate_left 1
              · (intro w hSw; (try dsimp only at hSw); obtain ⟨hI, hB⟩ := hSw; have k0 : w.cell? ⟨Bx, O + k * 12, none⟩ = some (.int .i64 p.kind) := hI 0 _ rfl; have k2 : w.cell? ⟨Bx, O + k * 12 + 2, none⟩ = some (.int .i64 p.o.node) := hI 2 _ rfl; have k3 : w.cell? ⟨Bx, O + k * 12 + 3, none⟩ = some (.int .u64 (p.o.epoch : Int)) := hI 3 _ rfl; have k4 : w.cell? ⟨Bx, O + k * 12 + 4, none⟩ = some (.int .u64 (p.o.seq : Int)) := hI 4 _ rfl; have k5 : w.cell? ⟨Bx, O + k * 12 + 5, none⟩ = some (.int .i64 p.o.tr) := hI 5 _ rfl; have y3 : w.cell? ⟨Bx, O + k * 12 + 2 + 1, none⟩ = some (.int .u64 (p.o.epoch : Int)) := hI 3 _ rfl; have y4 : w.cell? ⟨Bx, O + k * 12 + 2 + 2, none⟩ = some (.int .u64 (p.o.seq : Int)) := hI 4 _ rfl; have y5 : w.cell? ⟨Bx, O + k * 12 + 2 + 3, none⟩ = some (.int .i64 p.o.tr) := hI 5 _ rfl; have b2 : w.cell? ⟨q2, 0, none⟩ = some (.int .i64 i.o.node) := hB.cell 0; have b3 : w.cell? ⟨q2, 1, none⟩ = some (.int .u64 (i.o.epoch : Int)) := hB.cell 1; have b4 : w.cell? ⟨q2, 2, none⟩ = some (.int .u64 (i.o.seq : Int)) := hB.cell 2; have b5 : w.cell? ⟨q2, 3, none⟩ = some (.int .i64 i.o.tr) := hB.cell 3; clear hI hB; go_simp) <;> (with_reducible rfl)
              try simp only [Act.put, List.setIfInBounds_toArray, List.set_cons_zero, List.set_cons_succ]
              refine wpAnyH_take (i := 17) (oi := ⟨some 59, _, _, _, _, _⟩) (v := ?_) rfl (by kernel_rfl) (by kernel_rfl) (by kernel_rfl) (fun _ _ _ h => h) (Or.inl ⟨by rfl, ?_⟩) (by assumption) ?_
              rotate_left 1
              · (intro w hSw; (try dsimp only at hSw); obtain ⟨hI, hB⟩ := hSw; have k0 : w.cell? ⟨Bx, O + k * 12, none⟩ = some (.int .i64 p.kind) := hI 0 _ rfl; have k2 : w.cell? ⟨Bx, O + k * 12 + 2, none⟩ = some (.int .i64 p.o.node) := hI 2 _ rfl; have k3 : w.cell? ⟨Bx, O + k * 12 + 3, none⟩ = some (.int .u64 (p.o.epoch : Int)) := hI 3 _ rfl; have k4 : w.cell? ⟨Bx, O + k * 12 + 4, none⟩ = some (.int .u64 (p.o.seq : Int)) := hI 4 _ rfl; have k5 : w.cell? ⟨Bx, O + k * 12 + 5, none⟩ = some (.int .i64 p.o.tr) := hI 5 _ rfl; have y3 : w.cell? ⟨Bx, O + k * 12 + 2 + 1, none⟩ = some (.int .u64 (p.o.epoch : Int)) := hI 3 _ rfl; have y4 : w.cell? ⟨Bx, O + k * 12 + 2 + 2, none⟩ = some (.int .u64 (p.o.seq : Int)) := hI 4 _ rfl; have y5 : w.cell? ⟨Bx, O + k * 12 + 2 + 3, none⟩ = some (.int .i64 p.o.tr) := hI 5 _ rfl; have b2 : w.cell? ⟨q2, 0, none⟩ = some (.int .i64 i.o.node) := hB.cell 0; have b3 : w.cell? ⟨q2, 1, none⟩ = some (.int .u64 (i.o.epoch : Int)) := hB.cell 1; have b4 : w.cell? ⟨q2, 2, none⟩ = some (.int .u64 (i.o.seq : Int)) := hB.cell 2; have b5 : w.cell? ⟨q2, 3, none⟩ = some (.int .i64 i.o.tr) := hB.cell 3; clear hI hB; go_simp) <;> (with_reducible rfl)
              try simp only [Act.put, List.setIfInBounds_toArray, List.set_cons_zero, List.set_cons_succ]
              refine wpAnyH_take (i := 18) (oi := ⟨some 60, _, _, _, _, _⟩) (v := ?_) rfl (by kernel_rfl) (by kernel_rfl) (by kernel_rfl) (fun _ _ _ h => h) (Or.inl ⟨by rfl, ?_⟩) (by assumption) ?_
              rotate_left 1
              · (intro w hSw; (try dsimp only at hSw); obtain ⟨hI, hB⟩ := hSw; have k0 : w.cell? ⟨Bx, O + k * 12, none⟩ = some (.int .i64 p.kind) := hI 0 _ rfl; have k2 : w.cell? ⟨Bx, O + k * 12 + 2, none⟩ = some (.int .i64 p.o.node) := hI 2 _ rfl; have k3 : w.cell? ⟨Bx, O + k * 12 + 3, none⟩ = some (.int .u64 (p.o.epoch : Int)) := hI 3 _ rfl; have k4 : w.cell? ⟨Bx, O + k * 12 + 4, none⟩ = some (.int .u64 (p.o.seq : Int)) := hI 4 _ rfl; have k5 : w.cell? ⟨Bx, O + k * 12 + 5, none⟩ = some (.int .i64 p.o.tr) := hI 5 _ rfl; have y3 : w.cell? ⟨Bx, O + k * 12 + 2 + 1, none⟩ = some (.int .u64 (p.o.epoch : Int)) := hI 3 _ rfl; have y4 : w.cell? ⟨Bx, O + k * 12 + 2 + 2, none⟩ = some (.int .u64 (p.o.seq : Int)) := hI 4 _ rfl; have y5 : w.cell? ⟨Bx, O + k * 12 + 2 + 3, none⟩ = some (.int .i64 p.o.tr) := hI 5 _ rfl; have b2 : w.cell? ⟨q2, 0, none⟩ = some (.int .i64 i.o.node) := hB.cell 0; have b3 : w.cell? ⟨q2, 1, none⟩ = some (.int .u64 (i.o.epoch : Int)) := hB.cell 1; have b4 : w.cell? ⟨q2, 2, none⟩ = some (.int .u64 (i.o.seq : Int)) := hB.cell 2; have b5 : w.cell? ⟨q2, 3, none⟩ = some (.int .i64 i.o.tr) := hB.cell 3; clear hI hB; go_simp) <;> (with_reducible rfl)
              try simp only [Act.put, List.setIfInBounds_toArray, List.set_cons_zero, List.set_cons_succ]
              refine wpAnyH_take (i := 19) (oi := ⟨some 61, _, _, _, _, _⟩) (v := ?_) rfl (by kernel_rfl) (by kernel_rfl) (by kernel_rfl) (fun _ _ _ h => h) (Or.inl ⟨by rfl, ?_⟩) (by assumption) ?_
              rotate_left 1
              · (intro w hSw; (try dsimp only at hSw); obtain ⟨hI, hB⟩ := hSw; have k0 : w.cell? ⟨Bx, O + k * 12, none⟩ = some (.int .i64 p.kind) := hI 0 _ rfl; have k2 : w.cell? ⟨Bx, O + k * 12 + 2, none⟩ = some (.int .i64 p.o.node) := hI 2 _ rfl; have k3 : w.cell? ⟨Bx, O + k * 12 + 3, none⟩ = some (.int .u64 (p.o.epoch : Int)) := hI 3 _ rfl; have k4 : w.cell? ⟨Bx, O + k * 12 + 4, none⟩ = some (.int .u64 (p.o.seq : Int)) := hI 4 _ rfl; have k5 : w.cell? ⟨Bx, O + k * 12 + 5, none⟩ = some (.int .i64 p.o.tr) := hI 5 _ rfl; have y3 : w.cell? ⟨Bx, O + k * 12 + 2 + 1, none⟩ = some (.int .u64 (p.o.epoch : Int)) := hI 3 _ rfl; have y4 : w.cell? ⟨Bx, O + k * 12 + 2 + 2, none⟩ = some (.int .u64 (p.o.seq : Int)) := hI 4 _ rfl; have y5 : w.cell? ⟨Bx, O + k * 12 + 2 + 3, none⟩ = some (.int .i64 p.o.tr) := hI 5 _ rfl; have b2 : w.cell? ⟨q2, 0, none⟩ = some (.int .i64 i.o.node) := hB.cell 0; have b3 : w.cell? ⟨q2, 1, none⟩ = some (.int .u64 (i.o.epoch : Int)) := hB.cell 1; have b4 : w.cell? ⟨q2, 2, none⟩ = some (.int .u64 (i.o.seq : Int)) := hB.cell 2; have b5 : w.cell? ⟨q2, 3, none⟩ = some (.int .i64 i.o.tr) := hB.cell 3; clear hI hB; go_simp) <;> (with_reducible rfl)
              try simp only [Act.put, List.setIfInBounds_toArray, List.set_cons_zero, List.set_cons_succ]
              refine wpAnyH_take (i := 20) (oi := ⟨some 62, _, _, _, _, _⟩) (v := ?_) rfl (by kernel_rfl) (by kernel_rfl) (by kernel_rfl) (fun _ _ _ h => h) (Or.inl ⟨by rfl, ?_⟩) (by assumption) ?_
              rotate_left 1
              · (intro w hSw; (try dsimp only at hSw); obtain ⟨hI, hB⟩ := hSw; have k0 : w.cell? ⟨Bx, O + k * 12, none⟩ = some (.int .i64 p.kind) := hI 0 _ rfl; have k2 : w.cell? ⟨Bx, O + k * 12 + 2, none⟩ = some (.int .i64 p.o.node) := hI 2 _ rfl; have k3 : w.cell? ⟨Bx, O + k * 12 + 3, none⟩ = some (.int .u64 (p.o.epoch : Int)) := hI 3 _ rfl; have k4 : w.cell? ⟨Bx, O + k * 12 + 4, none⟩ = some (.int .u64 (p.o.seq : Int)) := hI 4 _ rfl; have k5 : w.cell? ⟨Bx, O + k * 12 + 5, none⟩ = some (.int .i64 p.o.tr) := hI 5 _ rfl; have y3 : w.cell? ⟨Bx, O + k * 12 + 2 + 1, none⟩ = some (.int .u64 (p.o.epoch : Int)) := hI 3 _ rfl; have y4 : w.cell? ⟨Bx, O + k * 12 + 2 + 2, none⟩ = some (.int .u64 (p.o.seq : Int)) := hI 4 _ rfl; have y5 : w.cell? ⟨Bx, O + k * 12 + 2 + 3, none⟩ = some (.int .i64 p.o.tr) := hI 5 _ rfl; have b2 : w.cell? ⟨q2, 0, none⟩ = some (.int .i64 i.o.node) := hB.cell 0; have b3 : w.cell? ⟨q2, 1, none⟩ = some (.int .u64 (i.o.epoch : Int)) := hB.cell 1; have b4 : w.cell? ⟨q2, 2, none⟩ = some (.int .u64 (i.o.seq : Int)) := hB.cell 2; have b5 : w.cell? ⟨q2, 3, none⟩ = some (.int .i64 i.o.tr) := hB.cell 3; clear hI hB; go_simp) <;> (with_reducible rfl)
              try simp only [Act.put, List.setIfInBounds_toArray, List.set_cons_zero, List.set_cons_succ]
              refine wpAnyH_take (i := 21) (oi := ⟨some 63, _, _, _, _, _⟩) (v := ?_) rfl (by kernel_rfl) (by kernel_rfl) (by kernel_rfl) (fun _ _ _ h => h) (Or.inl ⟨by rfl, ?_⟩) (by assumption) ?_
              rotate_left 1
              · (intro w hSw; (try dsimp only at hSw); obtain ⟨hI, hB⟩ := hSw; have k0 : w.cell? ⟨Bx, O + k * 12, none⟩ = some (.int .i64 p.kind) := hI 0 _ rfl; have k2 : w.cell? ⟨Bx, O + k * 12 + 2, none⟩ = some (.int .i64 p.o.node) := hI 2 _ rfl; have k3 : w.cell? ⟨Bx, O + k * 12 + 3, none⟩ = some (.int .u64 (p.o.epoch : Int)) := hI 3 _ rfl; have k4 : w.cell? ⟨Bx, O + k * 12 + 4, none⟩ = some (.int .u64 (p.o.seq : Int)) := hI 4 _ rfl; have k5 : w.cell? ⟨Bx, O + k * 12 + 5, none⟩ = some (.int .i64 p.o.tr) := hI 5 _ rfl; have y3 : w.cell? ⟨Bx, O + k * 12 + 2 + 1, none⟩ = some (.int .u64 (p.o.epoch : Int)) := hI 3 _ rfl; have y4 : w.cell? ⟨Bx, O + k * 12 + 2 + 2, none⟩ = some (.int .u64 (p.o.seq : Int)) := hI 4 _ rfl; have y5 : w.cell? ⟨Bx, O + k * 12 + 2 + 3, none⟩ = some (.int .i64 p.o.tr) := hI 5 _ rfl; have b2 : w.cell? ⟨q2, 0, none⟩ = some (.int .i64 i.o.node) := hB.cell 0; have b3 : w.cell? ⟨q2, 1, none⟩ = some (.int .u64 (i.o.epoch : Int)) := hB.cell 1; have b4 : w.cell? ⟨q2, 2, none⟩ = some (.int .u64 (i.o.seq : Int)) := hB.cell 2; have b5 : w.cell? ⟨q2, 3, none⟩ = some (.int .i64 i.o.tr) := hB.cell 3; clear hI hB; go_simp) <;> (with_reducible rfl)
              try simp only [Act.put, List.setIfInBounds_toArray, List.set_cons_zero, List.set_cons_succ]
              refine wpAnyH_ready (rs := [22]) (by kernel_rfl) (by simp) ?_
              refine AllReadyH.cons (o := ⟨some 64, _, _, _, _, _⟩) rfl (fun K hK => ?_) AllReadyH.nil
              go_simp
              go_at_call 15
              refine HCJ.out.mono ?_
              clear HCJ hHeld
              rintro e w5 ⟨he, hf5⟩
              obtain rfl : e = .returned (.bool false) := he
              have HF5 : Hid (Fr NoBlk wr w5) := (Fr.refl _ _).drew.trans hf5
              clear hf5
              refine hK.out _ _ ?_ (fun hHeld => ?_)
              · exact HSJ.out _ HF5.out
              clear hK K
              try simp only [Act.put, List.setIfInBounds_toArray, List.set_cons_zero, List.set_cons_succ]
              refine wpAnyH_take (i := 23) (oi := ⟨some 65, _, _, _, _, _⟩) (v := ?_) rfl (by kernel_rfl) (by kernel_rfl) (by kernel_rfl) (fun _ _ _ h => h) (Or.inl ⟨by rfl, ?_⟩) (by assumption) ?_
              rotate_left 1
              · (intro w hSw; (try dsimp only at hSw); obtain ⟨hI, hB⟩ := hSw; have k0 : w.cell? ⟨Bx, O + k * 12, none⟩ = some (.int .i64 p.kind) := hI 0 _ rfl; have k2 : w.cell? ⟨Bx, O + k * 12 + 2, none⟩ = some (.int .i64 p.o.node) := hI 2 _ rfl; have k3 : w.cell? ⟨Bx, O + k * 12 + 3, none⟩ = some (.int .u64 (p.o.epoch : Int)) := hI 3 _ rfl; have k4 : w.cell? ⟨Bx, O + k * 12 + 4, none⟩ = some (.int .u64 (p.o.seq : Int)) := hI 4 _ rfl; have k5 : w.cell? ⟨Bx, O + k * 12 + 5, none⟩ = some (.int .i64 p.o.tr) := hI 5 _ rfl; have y3 : w.cell? ⟨Bx, O + k * 12 + 2 + 1, none⟩ = some (.int .u64 (p.o.epoch : Int)) := hI 3 _ rfl; have y4 : w.cell? ⟨Bx, O + k * 12 + 2 + 2, none⟩ = some (.int .u64 (p.o.seq : Int)) := hI 4 _ rfl; have y5 : w.cell? ⟨Bx, O + k * 12 + 2 + 3, none⟩ = some (.int .i64 p.o.tr) := hI 5 _ rfl; have b2 : w.cell? ⟨q2, 0, none⟩ = some (.int .i64 i.o.node) := hB.cell 0; have b3 : w.cell? ⟨q2, 1, none⟩ = some (.int .u64 (i.o.epoch : Int)) := hB.cell 1; have b4 : w.cell? ⟨q2, 2, none⟩ = some (.int .u64 (i.o.seq : Int)) := hB.cell 2; have b5 : w.cell? ⟨q2, 3, none⟩ = some (.int .i64 i.o.tr) := hB.cell 3; clear hI hB; go_simp) <;> (with_reducible rfl)
              try simp only [Act.put, List.setIfInBounds_toArray, List.set_cons_zero, List.set_cons_succ]
              refine wpAnyH_take (i := 24) (oi := ⟨some 66, _, _, _, _, _⟩) (v := ?_) rfl (by kernel_rfl) (by kernel_rfl) (by kernel_rfl) (fun _ _ _ h => h) (Or.inl ⟨by rfl, ?_⟩) (by assumption) ?_
              rotate_left 1
              · (intro w hSw; (try dsimp only at hSw); obtain ⟨hI, hB⟩ := hSw; have k0 : w.cell? ⟨Bx, O + k * 12, none⟩ = some (.int .i64 p.kind) := hI 0 _ rfl; have k2 : w.cell? ⟨Bx, O + k * 12 + 2, none⟩ = some (.int .i64 p.o.node) := hI 2 _ rfl; have k3 : w.cell? ⟨Bx, O + k * 12 + 3, none⟩ = some (.int .u64 (p.o.epoch : Int)) := hI 3 _ rfl; have k4 : w.cell? ⟨Bx, O + k * 12 + 4, none⟩ = some (.int .u64 (p.o.seq : Int)) := hI 4 _ rfl; have k5 : w.cell? ⟨Bx, O + k * 12 + 5, none⟩ = some (.int .i64 p.o.tr) := hI 5 _ rfl; have y3 : w.cell? ⟨Bx, O + k * 12 + 2 + 1, none⟩ = some (.int .u64 (p.o.epoch : Int)) := hI 3 _ rfl; have y4 : w.cell? ⟨Bx, O + k * 12 + 2 + 2, none⟩ = some (.int .u64 (p.o.seq : Int)) := hI 4 _ rfl; have y5 : w.cell? ⟨Bx, O + k * 12 + 2 + 3, none⟩ = some (.int .i64 p.o.tr) := hI 5 _ rfl; have b2 : w.cell? ⟨q2, 0, none⟩ = some (.int .i64 i.o.node) := hB.cell 0; have b3 : w.cell? ⟨q2, 1, none⟩ = some (.int .u64 (i.o.epoch : Int)) := hB.cell 1; have b4 : w.cell? ⟨q2, 2, none⟩ = some (.int .u64 (i.o.seq : Int)) := hB.cell 2; have b5 : w.cell? ⟨q2, 3, none⟩ = some (.int .i64 i.o.tr) := hB.cell 3; clear hI hB; go_simp) <;> (with_reducible rfl)
              try simp only [Act.put, List.setIfInBounds_toArray, List.set_cons_zero, List.set_cons_succ]
              refine wpAnyH_take (i := 25) (oi := ⟨some 9, _, _, _, _, _⟩) (v := ?_) rfl (by kernel_rfl) (by kernel_rfl) (by kernel_rfl) (fun _ _ _ h => h) (Or.inl ⟨by rfl, ?_⟩) (by assumption) ?_
              rotate_left 1
              · (intro w hSw; (try dsimp only at hSw); obtain ⟨hI, hB⟩ := hSw; have k0 : w.cell? ⟨Bx, O + k * 12, none⟩ = some (.int .i64 p.kind) := hI 0 _ rfl; have k2 : w.cell? ⟨Bx, O + k * 12 + 2, none⟩ = some (.int .i64 p.o.node) := hI 2 _ rfl; have k3 : w.cell? ⟨Bx, O + k * 12 + 3, none⟩ = some (.int .u64 (p.o.epoch : Int)) := hI 3 _ rfl; have k4 : w.cell? ⟨Bx, O + k * 12 + 4, none⟩ = some (.int .u64 (p.o.seq : Int)) := hI 4 _ rfl; have k5 : w.cell? ⟨Bx, O + k * 12 + 5, none⟩ = some (.int .i64 p.o.tr) := hI 5 _ rfl; have y3 : w.cell? ⟨Bx, O + k * 12 + 2 + 1, none⟩ = some (.int .u64 (p.o.epoch : Int)) := hI 3 _ rfl; have y4 : w.cell? ⟨Bx, O + k * 12 + 2 + 2, none⟩ = some (.int .u64 (p.o.seq : Int)) := hI 4 _ rfl; have y5 : w.cell? ⟨Bx, O + k * 12 + 2 + 3, none⟩ = some (.int .i64 p.o.tr) := hI 5 _ rfl; have b2 : w.cell? ⟨q2, 0, none⟩ = some (.int .i64 i.o.node) := hB.cell 0; have b3 : w.cell? ⟨q2, 1, none⟩ = some (.int .u64 (i.o.epoch : Int)) := hB.cell 1; have b4 : w.cell? ⟨q2, 2, none⟩ = some (.int .u64 (i.o.seq : Int)) := hB.cell 2; have b5 : w.cell? ⟨q2, 3, none⟩ = some (.int .i64 i.o.tr) := hB.cell 3; clear hI hB; go_simp) <;> (with_reducible rfl)
              try simp only [Act.put, List.setIfInBounds_toArray, List.set_cons_zero, List.set_cons_succ]
              refine wpAnyH_done (by kernel_rfl) ?_ _
              go_wp2_with fail
              go_roundw
              case rel => exact ⟨k + 1, by omega, ⟨ret_had HNE.out, by go_num⟩, HFQ.out.trans HF5.out⟩
              case measure => simp [intOf]; omega
            | true =>
              refine wpAnyH_take (i := 0) (oi := ⟨some 42, _, _, _, _, _⟩) (v := ?_) rfl (by kernel_rfl) (by kernel_rfl) (by kernel_rfl) (fun _ _ _ h => h) (Or.inl ⟨by rfl, ?_⟩) (by assumption) ?_
              rotate_left 1
              · (intro w hSw; (try dsimp only at hSw); obtain ⟨hI, hB⟩ := hSw; have k0 : w.cell? ⟨Bx, O + k * 12, none⟩ = some (.int .i64 p.kind) := hI 0 _ rfl; have k2 : w.cell? ⟨Bx, O + k * 12 + 2, none⟩ = some (.int .i64 p.o.node) := hI 2 _ rfl; have k3 : w.cell? ⟨Bx, O + k * 12 + 3, none⟩ = some (.int .u64 (p.o.epoch : Int)) := hI 3 _ rfl; have k4 : w.cell? ⟨Bx, O + k * 12 + 4, none⟩ = some (.int .u64 (p.o.seq : Int)) := hI 4 _ rfl; have k5 : w.cell? ⟨Bx, O + k * 12 + 5, none⟩ = some (.int .i64 p.o.tr) := hI 5 _ rfl; have y3 : w.cell? ⟨Bx, O + k * 12 + 2 + 1, none⟩ = some (.int .u64 (p.o.epoch : Int)) := hI 3 _ rfl; have y4 : w.cell? ⟨Bx, O + k * 12 + 2 + 2, none⟩ = some (.int .u64 (p.o.seq : Int)) := hI 4 _ rfl; have y5 : w.cell? ⟨Bx, O + k * 12 + 2 + 3, none⟩ = some (.int .i64 p.o.tr) := hI 5 _ rfl; have b2 : w.cell? ⟨q2, 0, none⟩ = some (.int .i64 i.o.node) := hB.cell 0; have b3 : w.cell? ⟨q2, 1, none⟩ = some (.int .u64 (i.o.epoch : Int)) := hB.cell 1; have b4 : w.cell? ⟨q2, 2, none⟩ = some (.int .u64 (i.o.seq : Int)) := hB.cell 2; have b5 : w.cell? ⟨q2, 3, none⟩ = some (.int .i64 i.o.tr) := hB.cell 3; clear hI hB; go_simp) <;> (with_reducible rfl)
              try simp only [Act.put, List.setIfInBounds_toArray, List.set_cons_zero, List.set_cons_succ]
              refine wpAnyH_take (i := 1) (oi := ⟨some 43, _, _, _, _, _⟩) (v := ?_) rfl (by kernel_rfl) (by kernel_rfl) (by kernel_rfl) (fun _ _ _ h => h) (Or.inl ⟨by rfl, ?_⟩) (by assumption) ?_
              rotate_left 1
              · (intro w hSw; (try dsimp only at hSw); obtain ⟨hI, hB⟩ := hSw; have k0 : w.cell? ⟨Bx, O + k * 12, none⟩ = some (.int .i64 p.kind) := hI 0 _ rfl; have k2 : w.cell? ⟨Bx, O + k * 12 + 2, none⟩ = some (.int .i64 p.o.node) := hI 2 _ rfl; have k3 : w.cell? ⟨Bx, O + k * 12 + 3, none⟩ = some (.int .u64 (p.o.epoch : Int)) := hI 3 _ rfl; have k4 : w.cell? ⟨Bx, O + k * 12 + 4, none⟩ = some (.int .u64 (p.o.seq : Int)) := hI 4 _ rfl; have k5 : w.cell? ⟨Bx, O + k * 12 + 5, none⟩ = some (.int .i64 p.o.tr) := hI 5 _ rfl; have y3 : w.cell? ⟨Bx, O + k * 12 + 2 + 1, none⟩ = some (.int .u64 (p.o.epoch : Int)) := hI 3 _ rfl; have y4 : w.cell? ⟨Bx, O + k * 12 + 2 + 2, none⟩ = some (.int .u64 (p.o.seq : Int)) := hI 4 _ rfl; have y5 : w.cell? ⟨Bx, O + k * 12 + 2 + 3, none⟩ = some (.int .i64 p.o.tr) := hI 5 _ rfl; have b2 : w.cell? ⟨q2, 0, none⟩ = some (.int .i64 i.o.node) := hB.cell 0; have b3 : w.cell? ⟨q2, 1, none⟩ = some (.int .u64 (i.o.epoch : Int)) := hB.cell 1; have b4 : w.cell? ⟨q2, 2, none⟩ = some (.int .u64 (i.o.seq : Int)) := hB.cell 2; have b5 : w.cell? ⟨q2, 3, none⟩ = some (.int .i64 i.o.tr) := hB.cell 3; clear hI hB; go_simp) <;> (with_reducible rfl)
              try simp only [Act.put, List.setIfInBounds_toArray, List.set_cons_zero, List.set_cons_succ]
              refine wpAnyH_take (i := 2) (oi := ⟨some 44, _, _, _, _, _⟩) (v := ?_) rfl (by kernel_rfl) (by kernel_rfl) (by kernel_rfl) (fun _ _ _ h => h) (Or.inl ⟨by rfl, ?_⟩) (by assumption) ?_
              rotate_left 1
              · (intro w hSw; (try dsimp only at hSw); obtain ⟨hI, hB⟩ := hSw; have k0 : w.cell? ⟨Bx, O + k * 12, none⟩ = some (.int .i64 p.kind) := hI 0 _ rfl; have k2 : w.cell? ⟨Bx, O + k * 12 + 2, none⟩ = some (.int .i64 p.o.node) := hI 2 _ rfl; have k3 : w.cell? ⟨Bx, O + k * 12 + 3, none⟩ = some (.int .u64 (p.o.epoch : Int)) := hI 3 _ rfl; have k4 : w.cell? ⟨Bx, O + k * 12 + 4, none⟩ = some (.int .u64 (p.o.seq : Int)) := hI 4 _ rfl; have k5 : w.cell? ⟨Bx, O + k * 12 + 5, none⟩ = some (.int .i64 p.o.tr) := hI 5 _ rfl; have y3 : w.cell? ⟨Bx, O + k * 12 + 2 + 1, none⟩ = some (.int .u64 (p.o.epoch : Int)) := hI 3 _ rfl; have y4 : w.cell? ⟨Bx, O + k * 12 + 2 + 2, none⟩ = some (.int .u64 (p.o.seq : Int)) := hI 4 _ rfl; have y5 : w.cell? ⟨Bx, O + k * 12 + 2 + 3, none⟩ = some (.int .i64 p.o.tr) := hI 5 _ rfl; have b2 : w.cell? ⟨q2, 0, none⟩ = some (.int .i64 i.o.node) := hB.cell 0; have b3 : w.cell? ⟨q2, 1, none⟩ = some (.int .u64 (i.o.epoch : Int)) := hB.cell 1; have b4 : w.cell? ⟨q2, 2, none⟩ = some (.int .u64 (i.o.seq : Int)) := hB.cell 2; have b5 : w.cell? ⟨q2, 3, none⟩ = some (.int .i64 i.o.tr) := hB.cell 3; clear hI hB; go_simp) <;> (with_reducible rfl)
              try simp only [Act.put, List.setIfInBounds_toArray, List.set_cons_zero, List.set_cons_succ]
              refine wpAnyH_take (i := 3) (oi := ⟨some 45, _, _, _, _, _⟩) (v := ?_) rfl (by kernel_rfl) (by kernel_rfl) (by kernel_rfl) (fun _ _ _ h => h) (Or.inl ⟨by rfl, ?_⟩) (by assumption) ?_
              rotate_left 1
              · (intro w hSw; (try dsimp only at hSw); obtain ⟨hI, hB⟩ := hSw; have k0 : w.cell? ⟨Bx, O + k * 12, none⟩ = some (.int .i64 p.kind) := hI 0 _ rfl; have k2 : w.cell? ⟨Bx, O + k * 12 + 2, none⟩ = some (.int .i64 p.o.node) := hI 2 _ rfl; have k3 : w.cell? ⟨Bx, O + k * 12 + 3, none⟩ = some (.int .u64 (p.o.epoch : Int)) := hI 3 _ rfl; have k4 : w.cell? ⟨Bx, O + k * 12 + 4, none⟩ = some (.int .u64 (p.o.seq : Int)) := hI 4 _ rfl; have k5 : w.cell? ⟨Bx, O + k * 12 + 5, none⟩ = some (.int .i64 p.o.tr) := hI 5 _ rfl; have y3 : w.cell? ⟨Bx, O + k * 12 + 2 + 1, none⟩ = some (.int .u64 (p.o.epoch : Int)) := hI 3 _ rfl; have y4 : w.cell? ⟨Bx, O + k * 12 + 2 + 2, none⟩ = some (.int .u64 (p.o.seq : Int)) := hI 4 _ rfl; have y5 : w.cell? ⟨Bx, O + k * 12 + 2 + 3, none⟩ = some (.int .i64 p.o.tr) := hI 5 _ rfl; have b2 : w.cell? ⟨q2, 0, none⟩ = some (.int .i64 i.o.node) := hB.cell 0; have b3 : w.cell? ⟨q2, 1, none⟩ = some (.int .u64 (i.o.epoch : Int)) := hB.cell 1; have b4 : w.cell? ⟨q2, 2, none⟩ = some (.int .u64 (i.o.seq : Int)) := hB.cell 2; have b5 : w.cell? ⟨q2, 3, none⟩ = some (.int .i64 i.o.tr) := hB.cell 3; clear hI hB; go_simp) <;> (with_reducible rfl)
              try simp only [Act.put, List.setIfInBounds_toArray, List.set_cons_zero, List.set_cons_succ]
              refine wpAnyH_take (i := 4) (oi := ⟨some 46, _, _, _, _, _⟩) (v := ?_) rfl (by kernel_rfl) (by kernel_rfl) (by kernel_rfl) (fun _ _ _ h => h) (Or.inl ⟨by rfl, ?_⟩) (by assumption) ?_
              rotate_left 1
              · (intro w hSw; (try dsimp only at hSw); obtain ⟨hI, hB⟩ := hSw; have k0 : w.cell? ⟨Bx, O + k * 12, none⟩ = some (.int .i64 p.kind) := hI 0 _ rfl; have k2 : w.cell? ⟨Bx, O + k * 12 + 2, none⟩ = some (.int .i64 p.o.node) := hI 2 _ rfl; have k3 : w.cell? ⟨Bx, O + k * 12 + 3, none⟩ = some (.int .u64 (p.o.epoch : Int)) := hI 3 _ rfl; have k4 : w.cell? ⟨Bx, O + k * 12 + 4, none⟩ = some (.int .u64 (p.o.seq : Int)) := hI 4 _ rfl; have k5 : w.cell? ⟨Bx, O + k * 12 + 5, none⟩ = some (.int .i64 p.o.tr) := hI 5 _ rfl; have y3 : w.cell? ⟨Bx, O + k * 12 + 2 + 1, none⟩ = some (.int .u64 (p.o.epoch : Int)) := hI 3 _ rfl; have y4 : w.cell? ⟨Bx, O + k * 12 + 2 + 2, none⟩ = some (.int .u64 (p.o.seq : Int)) := hI 4 _ rfl; have y5 : w.cell? ⟨Bx, O + k * 12 + 2 + 3, none⟩ = some (.int .i64 p.o.tr) := hI 5 _ rfl; have b2 : w.cell? ⟨q2, 0, none⟩ = some (.int .i64 i.o.node) := hB.cell 0; have b3 : w.cell? ⟨q2, 1, none⟩ = some (.int .u64 (i.o.epoch : Int)) := hB.cell 1; have b4 : w.cell? ⟨q2, 2, none⟩ = some (.int .u64 (i.o.seq : Int)) := hB.cell 2; have b5 : w.cell? ⟨q2, 3, none⟩ = some (.int .i64 i.o.tr) := hB.cell 3; clear hI hB; go_simp) <;> (with_reducible rfl)
              try simp only [Act.put, List.setIfInBounds_toArray, List.set_cons_zero, List.set_cons_succ]
              refine wpAnyH_take (i := 5) (oi := ⟨some 47, _, _, _, _, _⟩) (v := ?_) rfl (by kernel_rfl) (by kernel_rfl) (by kernel_rfl) (fun _ _ _ h => h) (Or.inl ⟨by rfl, ?_⟩) (by assumption) ?_
              rotate_left 1
              · (intro w hSw; (try dsimp only at hSw); obtain ⟨hI, hB⟩ := hSw; have k0 : w.cell? ⟨Bx, O + k * 12, none⟩ = some (.int .i64 p.kind) := hI 0 _ rfl; have k2 : w.cell? ⟨Bx, O + k * 12 + 2, none⟩ = some (.int .i64 p.o.node) := hI 2 _ rfl; have k3 : w.cell? ⟨Bx, O + k * 12 + 3, none⟩ = some (.int .u64 (p.o.epoch : Int)) := hI 3 _ rfl; have k4 : w.cell? ⟨Bx, O + k * 12 + 4, none⟩ = some (.int .u64 (p.o.seq : Int)) := hI 4 _ rfl; have k5 : w.cell? ⟨Bx, O + k * 12 + 5, none⟩ = some (.int .i64 p.o.tr) := hI 5 _ rfl; have y3 : w.cell? ⟨Bx, O + k * 12 + 2 + 1, none⟩ = some (.int .u64 (p.o.epoch : Int)) := hI 3 _ rfl; have y4 : w.cell? ⟨Bx, O + k * 12 + 2 + 2, none⟩ = some (.int .u64 (p.o.seq : Int)) := hI 4 _ rfl; have y5 : w.cell? ⟨Bx, O + k * 12 + 2 + 3, none⟩ = some (.int .i64 p.o.tr) := hI 5 _ rfl; have b2 : w.cell? ⟨q2, 0, none⟩ = some (.int .i64 i.o.node) := hB.cell 0; have b3 : w.cell? ⟨q2, 1, none⟩ = some (.int .u64 (i.o.epoch : Int)) := hB.cell 1; have b4 : w.cell? ⟨q2, 2, none⟩ = some (.int .u64 (i.o.seq : Int)) := hB.cell 2; have b5 : w.cell? ⟨q2, 3, none⟩ = some (.int .i64 i.o.tr) := hB.cell 3; clear hI hB; go_simp) <;> (with_reducible rfl)
              try simp only [Act.put, List.setIfInBounds_toArray, List.set_cons_zero, List.set_cons_succ]
              refine wpAnyH_take (i := 6) (oi := ⟨some 48, _, _, _, _, _⟩) (v := ?_) rfl (by kernel_rfl) (by kernel_rfl) (by kernel_rfl) (fun _ _ _ h => h) (Or.inl ⟨by rfl, ?_⟩) (by assumption) ?_
              rotate_left 1
              · (intro w hSw; (try dsimp only at hSw); obtain ⟨hI, hB⟩ := hSw; have k0 : w.cell? ⟨Bx, O + k * 12, none⟩ = some (.int .i64 p.kind) := hI 0 _ rfl; have k2 : w.cell? ⟨Bx, O + k * 12 + 2, none⟩ = some (.int .i64 p.o.node) := hI 2 _ rfl; have k3 : w.cell? ⟨Bx, O + k * 12 + 3, none⟩ = some (.int .u64 (p.o.epoch : Int)) := hI 3 _ rfl; have k4 : w.cell? ⟨Bx, O + k * 12 + 4, none⟩ = some (.int .u64 (p.o.seq : Int)) := hI 4 _ rfl; have k5 : w.cell? ⟨Bx, O + k * 12 + 5, none⟩ = some (.int .i64 p.o.tr) := hI 5 _ rfl; have y3 : w.cell? ⟨Bx, O + k * 12 + 2 + 1, none⟩ = some (.int .u64 (p.o.epoch : Int)) := hI 3 _ rfl; have y4 : w.cell? ⟨Bx, O + k * 12 + 2 + 2, none⟩ = some (.int .u64 (p.o.seq : Int)) := hI 4 _ rfl; have y5 : w.cell? ⟨Bx, O + k * 12 + 2 + 3, none⟩ = some (.int .i64 p.o.tr) := hI 5 _ rfl; have b2 : w.cell? ⟨q2, 0, none⟩ = some (.int .i64 i.o.node) := hB.cell 0; have b3 : w.cell? ⟨q2, 1, none⟩ = some (.int .u64 (i.o.epoch : Int)) := hB.cell 1; have b4 : w.cell? ⟨q2, 2, none⟩ = some (.int .u64 (i.o.seq : Int)) := hB.cell 2; have b5 : w.cell? ⟨q2, 3, none⟩ = some (.int .i64 i.o.tr) := hB.cell 3; clear hI hB; go_simp) <;> (with_reducible rfl)
              try simp only [Act.put, List.setIfInBounds_toArray, List.set_cons_zero, List.set_cons_succ]
              refine wpAnyH_take (i := 7) (oi := ⟨some 49, _, _, _, _, _⟩) (v := ?_) rfl (by kernel_rfl) (by kernel_rfl) (by kernel_rfl) (fun _ _ _ h => h) (Or.inl ⟨by rfl, ?_⟩) (by assumption) ?_
              rotate_left 1
              · (intro w hSw; (try dsimp only at hSw); obtain ⟨hI, hB⟩ := hSw; have k0 : w.cell? ⟨Bx, O + k * 12, none⟩ = some (.int .i64 p.kind) := hI 0 _ rfl; have k2 : w.cell? ⟨Bx, O + k * 12 + 2, none⟩ = some (.int .i64 p.o.node) := hI 2 _ rfl; have k3 : w.cell? ⟨Bx, O + k * 12 + 3, none⟩ = some (.int .u64 (p.o.epoch : Int)) := hI 3 _ rfl; have k4 : w.cell? ⟨Bx, O + k * 12 + 4, none⟩ = some (.int .u64 (p.o.seq : Int)) := hI 4 _ rfl; have k5 : w.cell? ⟨Bx, O + k * 12 + 5, none⟩ = some (.int .i64 p.o.tr) := hI 5 _ rfl; have y3 : w.cell? ⟨Bx, O + k * 12 + 2 + 1, none⟩ = some (.int .u64 (p.o.epoch : Int)) := hI 3 _ rfl; have y4 : w.cell? ⟨Bx, O + k * 12 + 2 + 2, none⟩ = some (.int .u64 (p.o.seq : Int)) := hI 4 _ rfl; have y5 : w.cell? ⟨Bx, O + k * 12 + 2 + 3, none⟩ = some (.int .i64 p.o.tr) := hI 5 _ rfl; have b2 : w.cell? ⟨q2, 0, none⟩ = some (.int .i64 i.o.node) := hB.cell 0; have b3 : w.cell? ⟨q2, 1, none⟩ = some (.int .u64 (i.o.epoch : Int)) := hB.cell 1; have b4 : w.cell? ⟨q2, 2, none⟩ = some (.int .u64 (i.o.seq : Int)) := hB.cell 2; have b5 : w.cell? ⟨q2, 3, none⟩ = some (.int .i64 i.o.tr) := hB.cell 3; clear hI hB; go_simp) <;> (with_reducible rfl)
              try simp only [Act.put, List.setIfInBounds_toArray, List.set_cons_zero, List.set_cons_succ]
              refine wpAnyH_take (i := 8) (oi := ⟨some 50, _, _, _, _, _⟩) (v := ?_) rfl (by kernel_rfl) (by kernel_rfl) (by kernel_rfl) (fun _ _ _ h => h) (Or.inl ⟨by rfl, ?_⟩) (by assumption) ?_
              rotate_left 1
              · (intro w hSw; (try dsimp only at hSw); obtain ⟨hI, hB⟩ := hSw; have k0 : w.cell? ⟨Bx, O + k * 12, none⟩ = some (.int .i64 p.kind) := hI 0 _ rfl; have k2 : w.cell? ⟨Bx, O + k * 12 + 2, none⟩ = some (.int .i64 p.o.node) := hI 2 _ rfl; have k3 : w.cell? ⟨Bx, O + k * 12 + 3, none⟩ = some (.int .u64 (p.o.epoch : Int)) := hI 3 _ rfl; have k4 : w.cell? ⟨Bx, O + k * 12 + 4, none⟩ = some (.int .u64 (p.o.seq : Int)) := hI 4 _ rfl; have k5 : w.cell? ⟨Bx, O + k * 12 + 5, none⟩ = some (.int .i64 p.o.tr) := hI 5 _ rfl; have y3 : w.cell? ⟨Bx, O + k * 12 + 2 + 1, none⟩ = some (.int .u64 (p.o.epoch : Int)) := hI 3 _ rfl; have y4 : w.cell? ⟨Bx, O + k * 12 + 2 + 2, none⟩ = some (.int .u64 (p.o.seq : Int)) := hI 4 _ rfl; have y5 : w.cell? ⟨Bx, O + k * 12 + 2 + 3, none⟩ = some (.int .i64 p.o.tr) := hI 5 _ rfl; have b2 : w.cell? ⟨q2, 0, none⟩ = some (.int .i64 i.o.node) := hB.cell 0; have b3 : w.cell? ⟨q2, 1, none⟩ = some (.int .u64 (i.o.epoch : Int)) := hB.cell 1; have b4 : w.cell? ⟨q2, 2, none⟩ = some (.int .u64 (i.o.seq : Int)) := hB.cell 2; have b5 : w.cell? ⟨q2, 3, none⟩ = some (.int .i64 i.o.tr) := hB.cell 3; clear hI hB; go_simp) <;> (with_reducible rfl)
              try simp only [Act.put, List.setIfInBounds_toArray, List.set_cons_zero, List.set_cons_succ]
              refine wpAnyH_take (i := 9) (oi := ⟨some 51, _, _, _, _, _⟩) (v := ?_) rfl (by kernel_rfl) (by kernel_rfl) (by kernel_rfl) (fun _ _ _ h => h) (Or.inl ⟨by rfl, ?_⟩) (by assumption) ?_
              rotate_left 1
              · (intro w hSw; (try dsimp only at hSw); obtain ⟨hI, hB⟩ := hSw; have k0 : w.cell? ⟨Bx, O + k * 12, none⟩ = some (.int .i64 p.kind) := hI 0 _ rfl; have k2 : w.cell? ⟨Bx, O + k * 12 + 2, none⟩ = some (.int .i64 p.o.node) := hI 2 _ rfl; have k3 : w.cell? ⟨Bx, O + k * 12 + 3, none⟩ = some (.int .u64 (p.o.epoch : Int)) := hI 3 _ rfl; have k4 : w.cell? ⟨Bx, O + k * 12 + 4, none⟩ = some (.int .u64 (p.o.seq : Int)) := hI 4 _ rfl; have k5 : w.cell? ⟨Bx, O + k * 12 + 5, none⟩ = some (.int .i64 p.o.tr) := hI 5 _ rfl; have y3 : w.cell? ⟨Bx, O + k * 12 + 2 + 1, none⟩ = some (.int .u64 (p.o.epoch : Int)) := hI 3 _ rfl; have y4 : w.cell? ⟨Bx, O + k * 12 + 2 + 2, none⟩ = some (.int .u64 (p.o.seq : Int)) := hI 4 _ rfl; have y5 : w.cell? ⟨Bx, O + k * 12 + 2 + 3, none⟩ = some (.int .i64 p.o.tr) := hI 5 _ rfl; have b2 : w.cell? ⟨q2, 0, none⟩ = some (.int .i64 i.o.node) := hB.cell 0; have b3 : w.cell? ⟨q2, 1, none⟩ = some (.int .u64 (i.o.epoch : Int)) := hB.cell 1; have b4 : w.cell? ⟨q2, 2, none⟩ = some (.int .u64 (i.o.seq : Int)) := hB.cell 2; have b5 : w.cell? ⟨q2, 3, none⟩ = some (.int .i64 i.o.tr) := hB.cell 3; clear hI hB; go_simp) <;> (with_reducible rfl)
              try simp only [Act.put, List.setIfInBounds_toArray, List.set_cons_zero, List.set_cons_succ]
              refine wpAnyH_take (i := 10) (oi := ⟨some 52, _, _, _, _, _⟩) (v := ?_) rfl (by kernel_rfl) (by kernel_rfl) (by kernel_rfl) (fun _ _ _ h => h) (Or.inl ⟨by rfl, ?_⟩) (by assumption) ?_
              rotate_left 1
              · (intro w hSw; (try dsimp only at hSw); obtain ⟨hI, hB⟩ := hSw; have k0 : w.cell? ⟨Bx, O + k * 12, none⟩ = some (.int .i64 p.kind) := hI 0 _ rfl; have k2 : w.cell? ⟨Bx, O + k * 12 + 2, none⟩ = some (.int .i64 p.o.node) := hI 2 _ rfl; have k3 : w.cell? ⟨Bx, O + k * 12 + 3, none⟩ = some (.int .u64 (p.o.epoch : Int)) := hI 3 _ rfl; have k4 : w.cell? ⟨Bx, O + k * 12 + 4, none⟩ = some (.int .u64 (p.o.seq : Int)) := hI 4 _ rfl; have k5 : w.cell? ⟨Bx, O + k * 12 + 5, none⟩ = some (.int .i64 p.o.tr) := hI 5 _ rfl; have y3 : w.cell? ⟨Bx, O + k * 12 + 2 + 1, none⟩ = some (.int .u64 (p.o.epoch : Int)) := hI 3 _ rfl; have y4 : w.cell? ⟨Bx, O + k * 12 + 2 + 2, none⟩ = some (.int .u64 (p.o.seq : Int)) := hI 4 _ rfl; have y5 : w.cell? ⟨Bx, O + k * 12 + 2 + 3, none⟩ = some (.int .i64 p.o.tr) := hI 5 _ rfl; have b2 : w.cell? ⟨q2, 0, none⟩ = some (.int .i64 i.o.node) := hB.cell 0; have b3 : w.cell? ⟨q2, 1, none⟩ = some (.int .u64 (i.o.epoch : Int)) := hB.cell 1; have b4 : w.cell? ⟨q2, 2, none⟩ = some (.int .u64 (i.o.seq : Int)) := hB.cell 2; have b5 : w.cell? ⟨q2, 3, none⟩ = some (.int .i64 i.o.tr) := hB.cell 3; clear hI hB; go_simp) <;> (with_reducible rfl)
              try simp only [Act.put, List.setIfInBounds_toArray, List.set_cons_zero, List.set_cons_succ]
              refine wpAnyH_take (i := 11) (oi := ⟨some 53, _, _, _, _, _⟩) (v := ?_) rfl (by kernel_rfl) (by kernel_rfl) (by kernel_rfl) (fun _ _ _ h => h) (Or.inl ⟨by rfl, ?_⟩) (by assumption) ?_
              rotate_left 1
              · (intro w hSw; (try dsimp only at hSw); obtain ⟨hI, hB⟩ := hSw; have k0 : w.cell? ⟨Bx, O + k * 12, none⟩ = some (.int .i64 p.kind) := hI 0 _ rfl; have k2 : w.cell? ⟨Bx, O + k * 12 + 2, none⟩ = some (.int .i64 p.o.node) := hI 2 _ rfl; have k3 : w.cell? ⟨Bx, O + k * 12 + 3, none⟩ = some (.int .u64 (p.o.epoch : Int)) := hI 3 _ rfl; have k4 : w.cell? ⟨Bx, O + k * 12 + 4, none⟩ = some (.int .u64 (p.o.seq : Int)) := hI 4 _ rfl; have k5 : w.cell? ⟨Bx, O + k * 12 + 5, none⟩ = some (.int .i64 p.o.tr) := hI 5 _ rfl; have y3 : w.cell? ⟨Bx, O + k * 12 + 2 + 1, none⟩ = some (.int .u64 (p.o.epoch : Int)) := hI 3 _ rfl; have y4 : w.cell? ⟨Bx, O + k * 12 + 2 + 2, none⟩ = some (.int .u64 (p.o.seq : Int)) := hI 4 _ rfl; have y5 : w.cell? ⟨Bx, O + k * 12 + 2 + 3, none⟩ = some (.int .i64 p.o.tr) := hI 5 _ rfl; have b2 : w.cell? ⟨q2, 0, none⟩ = some (.int .i64 i.o.node) := hB.cell 0; have b3 : w.cell? ⟨q2, 1, none⟩ = some (.int .u64 (i.o.epoch : Int)) := hB.cell 1; have b4 : w.cell? ⟨q2, 2, none⟩ = some (.int .u64 (i.o.seq : Int)) := hB.cell 2; have b5 : w.cell? ⟨q2, 3, none⟩ = some (.int .i64 i.o.tr) := hB.cell 3; clear hI hB; go_simp) <;> (with_reducible rfl)
              try simp only [Act.put, List.setIfInBounds_toArray, List.set_cons_zero, List.set_cons_succ]
              refine wpAnyH_take (i := 12) (oi := ⟨some 54, _, _, _, _, _⟩) (v := ?_) rfl (by kernel_rfl) (by kernel_rfl) (by kernel_rfl) (fun _ _ _ h => h) (Or.inl ⟨by rfl, ?_⟩) (by assumption) ?_
              rotate_left 1
              · (intro w hSw; (try dsimp only at hSw); obtain ⟨hI, hB⟩ := hSw; have k0 : w.cell? ⟨Bx, O + k * 12, none⟩ = some (.int .i64 p.kind) := hI 0 _ rfl; have k2 : w.cell? ⟨Bx, O + k * 12 + 2, none⟩ = some (.int .i64 p.o.node) := hI 2 _ rfl; have k3 : w.cell? ⟨Bx, O + k * 12 + 3, none⟩ = some (.int .u64 (p.o.epoch : Int)) := hI 3 _ rfl; have k4 : w.cell? ⟨Bx, O + k * 12 + 4, none⟩ = some (.int .u64 (p.o.seq : Int)) := hI 4 _ rfl; have k5 : w.cell? ⟨Bx, O + k * 12 + 5, none⟩ = some (.int .i64 p.o.tr) := hI 5 _ rfl; have y3 : w.cell? ⟨Bx, O + k * 12 + 2 + 1, none⟩ = some (.int .u64 (p.o.epoch : Int)) := hI 3 _ rfl; have y4 : w.cell? ⟨Bx, O + k * 12 + 2 + 2, none⟩ = some (.int .u64 (p.o.seq : Int)) := hI 4 _ rfl; have y5 : w.cell? ⟨Bx, O + k * 12 + 2 + 3, none⟩ = some (.int .i64 p.o.tr) := hI 5 _ rfl; have b2 : w.cell? ⟨q2, 0, none⟩ = some (.int .i64 i.o.node) := hB.cell 0; have b3 : w.cell? ⟨q2, 1, none⟩ = some (.int .u64 (i.o.epoch : Int)) := hB.cell 1; have b4 : w.cell? ⟨q2, 2, none⟩ = some (.int .u64 (i.o.seq : Int)) := hB.cell 2; have b5 : w.cell? ⟨q2, 3, none⟩ = some (.int .i64 i.o.tr) := hB.cell 3; clear hI hB; go_simp) <;> (with_reducible rfl)
              try simp only [Act.put, List.setIfInBounds_toArray, List.set_cons_zero, List.set_cons_succ]
              refine wpAnyH_take (i := 13) (oi := ⟨some 55, _, _, _, _, _⟩) (v := ?_) rfl (by kernel_rfl) (by kernel_rfl) (by kernel_rfl) (fun _ _ _ h => h) (Or.inl ⟨by rfl, ?_⟩) (by assumption) ?_
              rotate_left 1
              · (intro w hSw; (try dsimp only at hSw); obtain ⟨hI, hB⟩ := hSw; have k0 : w.cell? ⟨Bx, O + k * 12, none⟩ = some (.int .i64 p.kind) := hI 0 _ rfl; have k2 : w.cell? ⟨Bx, O + k * 12 + 2, none⟩ = some (.int .i64 p.o.node) := hI 2 _ rfl; have k3 : w.cell? ⟨Bx, O + k * 12 + 3, none⟩ = some (.int .u64 (p.o.epoch : Int)) := hI 3 _ rfl; have k4 : w.cell? ⟨Bx, O + k * 12 + 4, none⟩ = some (.int .u64 (p.o.seq : Int)) := hI 4 _ rfl; have k5 : w.cell? ⟨Bx, O + k * 12 + 5, none⟩ = some (.int .i64 p.o.tr) := hI 5 _ rfl; have y3 : w.cell? ⟨Bx, O + k * 12 + 2 + 1, none⟩ = some (.int .u64 (p.o.epoch : Int)) := hI 3 _ rfl; have y4 : w.cell? ⟨Bx, O + k * 12 + 2 + 2, none⟩ = some (.int .u64 (p.o.seq : Int)) := hI 4 _ rfl; have y5 : w.cell? ⟨Bx, O + k * 12 + 2 + 3, none⟩ = some (.int .i64 p.o.tr) := hI 5 _ rfl; have b2 : w.cell? ⟨q2, 0, none⟩ = some (.int .i64 i.o.node) := hB.cell 0; have b3 : w.cell? ⟨q2, 1, none⟩ = some (.int .u64 (i.o.epoch : Int)) := hB.cell 1; have b4 : w.cell? ⟨q2, 2, none⟩ = some (.int .u64 (i.o.seq : Int)) := hB.cell 2; have b5 : w.cell? ⟨q2, 3, none⟩ = some (.int .i64 i.o.tr) := hB.cell 3; clear hI hB; go_simp) <;> (with_reducible rfl)
              try simp only [Act.put, List.setIfInBounds_toArray, List.set_cons_zero, List.set_cons_succ]
              refine wpAnyH_take (i := 14) (oi := ⟨some 56, _, _, _, _, _⟩) (v := ?_) rfl (by kernel_rfl) (by kernel_rfl) (by kernel_rfl) (fun _ _ _ h => h) (Or.inl ⟨by rfl, ?_⟩) (by assumption) ?_
              rotate_left 1
              · (intro w hSw; (try dsimp only at hSw); obtain ⟨hI, hB⟩ := hSw; have k0 : w.cell? ⟨Bx, O + k * 12, none⟩ = some (.int .i64 p.kind) := hI 0 _ rfl; have k2 : w.cell? ⟨Bx, O + k * 12 + 2, none⟩ = some (.int .i64 p.o.node) := hI 2 _ rfl; have k3 : w.cell? ⟨Bx, O + k * 12 + 3, none⟩ = some (.int .u64 (p.o.epoch : Int)) := hI 3 _ rfl; have k4 : w.cell? ⟨Bx, O + k * 12 + 4, none⟩ = some (.int .u64 (p.o.seq : Int)) := hI 4 _ rfl; have k5 : w.cell? ⟨Bx, O + k * 12 + 5, none⟩ = some (.int .i64 p.o.tr) := hI 5 _ rfl; have y3 : w.cell? ⟨Bx, O + k * 12 + 2 + 1, none⟩ = some (.int .u64 (p.o.epoch : Int)) := hI 3 _ rfl; have y4 : w.cell? ⟨Bx, O + k * 12 + 2 + 2, none⟩ = some (.int .u64 (p.o.seq : Int)) := hI 4 _ rfl; have y5 : w.cell? ⟨Bx, O + k * 12 + 2 + 3, none⟩ = some (.int .i64 p.o.tr) := hI 5 _ rfl; have b2 : w.cell? ⟨q2, 0, none⟩ = some (.int .i64 i.o.node) := hB.cell 0; have b3 : w.cell? ⟨q2, 1, none⟩ = some (.int .u64 (i.o.epoch : Int)) := hB.cell 1; have b4 : w.cell? ⟨q2, 2, none⟩ = some (.int .u64 (i.o.seq : Int)) := hB.cell 2; have b5 : w.cell? ⟨q2, 3, none⟩ = some (.int .i64 i.o.tr) := hB.cell 3; clear hI hB; go_simp) <;> (with_reducible rfl)
              try simp only [Act.put, List.setIfInBounds_toArray, List.set_cons_zero, List.set_cons_succ]
              refine wpAnyH_take (i := 15) (oi := ⟨some 57, _, _, _, _, _⟩) (v := ?_) rfl (by kernel_rfl) (by kernel_rfl) (by kernel_rfl) (fun _ _ _ h => h) (Or.inl ⟨by rfl, ?_⟩) (by assumption) ?_
              rotate_left 1
              · (intro w hSw; (try dsimp only at hSw); obtain ⟨hI, hB⟩ := hSw; have k0 : w.cell? ⟨Bx, O + k * 12, none⟩ = some (.int .i64 p.kind) := hI 0 _ rfl; have k2 : w.cell? ⟨Bx, O + k * 12 + 2, none⟩ = some (.int .i64 p.o.node) := hI 2 _ rfl; have k3 : w.cell? ⟨Bx, O + k * 12 + 3, none⟩ = some (.int .u64 (p.o.epoch : Int)) := hI 3 _ rfl; have k4 : w.cell? ⟨Bx, O + k * 12 + 4, none⟩ = some (.int .u64 (p.o.seq : Int)) := hI 4 _ rfl; have k5 : w.cell? ⟨Bx, O + k * 12 + 5, none⟩ = some (.int .i64 p.o.tr) := hI 5 _ rfl; have y3 : w.cell? ⟨Bx, O + k * 12 + 2 + 1, none⟩ = some (.int .u64 (p.o.epoch : Int)) := hI 3 _ rfl; have y4 : w.cell? ⟨Bx, O + k * 12 + 2 + 2, none⟩ = some (.int .u64 (p.o.seq : Int)) := hI 4 _ rfl; have y5 : w.cell? ⟨Bx, O + k * 12 + 2 + 3, none⟩ = some (.int .i64 p.o.tr) := hI 5 _ rfl; have b2 : w.cell? ⟨q2, 0, none⟩ = some (.int .i64 i.o.node) := hB.cell 0; have b3 : w.cell? ⟨q2, 1, none⟩ = some (.int .u64 (i.o.epoch : Int)) := hB.cell 1; have b4 : w.cell? ⟨q2, 2, none⟩ = some (.int .u64 (i.o.seq : Int)) := hB.cell 2; have b5 : w.cell? ⟨q2, 3, none⟩ = some (.int .i64 i.o.tr) := hB.cell 3; clear hI hB; go_simp) <;> (with_reducible rfl)
              try simp only [Act.put, List.setIfInBounds_toArray, List.set_cons_zero, List.set_cons_succ]
              refine wpAnyH_take (i := 16) (oi := ⟨some 58, _, _, _, _, _⟩) (v := ?_) rfl (by kernel_rfl) (by kernel_rfl) (by kernel_rfl) (fun _ _ _ h => h) (Or.inl ⟨by rfl, ?_⟩) (by assumption) ?_
              rotate_left 1
              · (intro w hSw; (try dsimp only at hSw); obtain ⟨hI, hB⟩ := hSw; have k0 : w.cell? ⟨Bx, O + k * 12, none⟩ = some (.int .i64 p.kind) := hI 0 _ rfl; have k2 : w.cell? ⟨Bx, O + k * 12 + 2, none⟩ = some (.int .i64 p.o.node) := hI 2 _ rfl; have k3 : w.cell? ⟨Bx, O + k * 12 + 3, none⟩ = some (.int .u64 (p.o.epoch : Int)) := hI 3 _ rfl; have k4 : w.cell? ⟨Bx, O + k * 12 + 4, none⟩ = some (.int .u64 (p.o.seq : Int)) := hI 4 _ rfl; have k5 : w.cell? ⟨Bx, O + k * 12 + 5, none⟩ = some (.int .i64 p.o.tr) := hI 5 _ rfl; have y3 : w.cell? ⟨Bx, O + k * 12 + 2 + 1, none⟩ = some (.int .u64 (p.o.epoch : Int)) := hI 3 _ rfl; have y4 : w.cell? ⟨Bx, O + k * 12 + 2 + 2, none⟩ = some (.int .u64 (p.o.seq : Int)) := hI 4 _ rfl; have y5 : w.cell? ⟨Bx, O + k * 12 + 2 + 3, none⟩ = some (.int .i64 p.o.tr) := hI 5 _ rfl; have b2 : w.cell? ⟨q2, 0, none⟩ = some (.int .i64 i.o.node) := hB.cell 0; have b3 : w.cell? ⟨q2, 1, none⟩ = some (.int .u64 (i.o.epoch : Int)) := hB.cell 1; have b4 : w.cell? ⟨q2, 2, none⟩ = some (.int .u64 (i.o.seq : Int)) := hB.cell 2; have b5 : w.cell? ⟨q2, 3, none⟩ = some (.int .i64 i.o.tr) := hB.cell 3; clear hI hB; go_simp) <;> (with_reducible rfl)
              try simp only [Act.put, List.setIfInBounds_toArray, List.set_cons_zero, List.set_cons_succ]
              refine wpAnyH_take (i := 17) (oi := ⟨some 59, _, _, _, _, _⟩) (v := ?_) rfl (by kernel_rfl) (by kernel_rfl) (by kernel_rfl) (fun _ _ _ h => h) (Or.inl ⟨by rfl, ?_⟩) (by assumption) ?_
              rotate_left 1
              · (intro w hSw; (try dsimp only at hSw); obtain ⟨hI, hB⟩ := hSw; have k0 : w.cell? ⟨Bx, O + k * 12, none⟩ = some (.int .i64 p.kind) := hI 0 _ rfl; have k2 : w.cell? ⟨Bx, O + k * 12 + 2, none⟩ = some (.int .i64 p.o.node) := hI 2 _ rfl; have k3 : w.cell? ⟨Bx, O + k * 12 + 3, none⟩ = some (.int .u64 (p.o.epoch : Int)) := hI 3 _ rfl; have k4 : w.cell? ⟨Bx, O + k * 12 + 4, none⟩ = some (.int .u64 (p.o.seq : Int)) := hI 4 _ rfl; have k5 : w.cell? ⟨Bx, O + k * 12 + 5, none⟩ = some (.int .i64 p.o.tr) := hI 5 _ rfl; have y3 : w.cell? ⟨Bx, O + k * 12 + 2 + 1, none⟩ = some (.int .u64 (p.o.epoch : Int)) := hI 3 _ rfl; have y4 : w.cell? ⟨Bx, O + k * 12 + 2 + 2, none⟩ = some (.int .u64 (p.o.seq : Int)) := hI 4 _ rfl; have y5 : w.cell? ⟨Bx, O + k * 12 + 2 + 3, none⟩ = some (.int .i64 p.o.tr) := hI 5 _ rfl; have b2 : w.cell? ⟨q2, 0, none⟩ = some (.int .i64 i.o.node) := hB.cell 0; have b3 : w.cell? ⟨q2, 1, none⟩ = some (.int .u64 (i.o.epoch : Int)) := hB.cell 1; have b4 : w.cell? ⟨q2, 2, none⟩ = some (.int .u64 (i.o.seq : Int)) := hB.cell 2; have b5 : w.cell? ⟨q2, 3, none⟩ = some (.int .i64 i.o.tr) := hB.cell 3; clear hI hB; go_simp) <;> (with_reducible rfl)
              try simp only [Act.put, List.setIfInBounds_toArray, List.set_cons_zero, List.set_cons_succ]
              refine wpAnyH_take (i := 18) (oi := ⟨some 60, _, _, _, _, _⟩) (v := ?_) rfl (by kernel_rfl) (by kernel_rfl) (by kernel_rfl) (fun _ _ _ h => h) (Or.inl ⟨by rfl, ?_⟩) (by assumption) ?_
              rotate_left 1
              · (intro w hSw; (try dsimp only at hSw); obtain ⟨hI, hB⟩ := hSw; have k0 : w.cell? ⟨Bx, O + k * 12, none⟩ = some (.int .i64 p.kind) := hI 0 _ rfl; have k2 : w.cell? ⟨Bx, O + k * 12 + 2, none⟩ = some (.int .i64 p.o.node) := hI 2 _ rfl; have k3 : w.cell? ⟨Bx, O + k * 12 + 3, none⟩ = some (.int .u64 (p.o.epoch : Int)) := hI 3 _ rfl; have k4 : w.cell? ⟨Bx, O + k * 12 + 4, none⟩ = some (.int .u64 (p.o.seq : Int)) := hI 4 _ rfl; have k5 : w.cell? ⟨Bx, O + k * 12 + 5, none⟩ = some (.int .i64 p.o.tr) := hI 5 _ rfl; have y3 : w.cell? ⟨Bx, O + k * 12 + 2 + 1, none⟩ = some (.int .u64 (p.o.epoch : Int)) := hI 3 _ rfl; have y4 : w.cell? ⟨Bx, O + k * 12 + 2 + 2, none⟩ = some (.int .u64 (p.o.seq : Int)) := hI 4 _ rfl; have y5 : w.cell? ⟨Bx, O + k * 12 + 2 + 3, none⟩ = some (.int .i64 p.o.tr) := hI 5 _ rfl; have b2 : w.cell? ⟨q2, 0, none⟩ = some (.int .i64 i.o.node) := hB.cell 0; have b3 : w.cell? ⟨q2, 1, none⟩ = some (.int .u64 (i.o.epoch : Int)) := hB.cell 1; have b4 : w.cell? ⟨q2, 2, none⟩ = some (.int .u64 (i.o.seq : Int)) := hB.cell 2; have b5 : w.cell? ⟨q2, 3, none⟩ = some (.int .i64 i.o.tr) := hB.cell 3; clear hI hB; go_simp) <;> (with_reducible rfl)
              try simp only [Act.put, List.setIfInBounds_toArray, List.set_cons_zero, List.set_cons_succ]
              refine wpAnyH_take (i := 19) (oi := ⟨some 61, _, _, _, _, _⟩) (v := ?_) rfl (by kernel_rfl) (by kernel_rfl) (by kernel_rfl) (fun _ _ _ h => h) (Or.inl ⟨by rfl, ?_⟩) (by assumption) ?_
              rotate_left 1
              · (intro w hSw; (try dsimp only at hSw); obtain ⟨hI, hB⟩ := hSw; have k0 : w.cell? ⟨Bx, O + k * 12, none⟩ = some (.int .i64 p.kind) := hI 0 _ rfl; have k2 : w.cell? ⟨Bx, O + k * 12 + 2, none⟩ = some (.int .i64 p.o.node) := hI 2 _ rfl; have k3 : w.cell? ⟨Bx, O + k * 12 + 3, none⟩ = some (.int .u64 (p.o.epoch : Int)) := hI 3 _ rfl; have k4 : w.cell? ⟨Bx, O + k * 12 + 4, none⟩ = some (.int .u64 (p.o.seq : Int)) := hI 4 _ rfl; have k5 : w.cell? ⟨Bx, O + k * 12 + 5, none⟩ = some (.int .i64 p.o.tr) := hI 5 _ rfl; have y3 : w.cell? ⟨Bx, O + k * 12 + 2 + 1, none⟩ = some (.int .u64 (p.o.epoch : Int)) := hI 3 _ rfl; have y4 : w.cell? ⟨Bx, O + k * 12 + 2 + 2, none⟩ = some (.int .u64 (p.o.seq : Int)) := hI 4 _ rfl; have y5 : w.cell? ⟨Bx, O + k * 12 + 2 + 3, none⟩ = some (.int .i64 p.o.tr) := hI 5 _ rfl; have b2 : w.cell? ⟨q2, 0, none⟩ = some (.int .i64 i.o.node) := hB.cell 0; have b3 : w.cell? ⟨q2, 1, none⟩ = some (.int .u64 (i.o.epoch : Int)) := hB.cell 1; have b4 : w.cell? ⟨q2, 2, none⟩ = some (.int .u64 (i.o.seq : Int)) := hB.cell 2; have b5 : w.cell? ⟨q2, 3, none⟩ = some (.int .i64 i.o.tr) := hB.cell 3; clear hI hB; go_simp) <;> (with_reducible rfl)
              try simp only [Act.put, List.setIfInBounds_toArray, List.set_cons_zero, List.set_cons_succ]
              refine wpAnyH_take (i := 20) (oi := ⟨some 62, _, _, _, _, _⟩) (v := ?_) rfl (by kernel_rfl) (by kernel_rfl) (by kernel_rfl) (fun _ _ _ h => h) (Or.inl ⟨by rfl, ?_⟩) (by assumption) ?_
              rotate_left 1
              · (intro w hSw; (try dsimp only at hSw); obtain ⟨hI, hB⟩ := hSw; have k0 : w.cell? ⟨Bx, O + k * 12, none⟩ = some (.int .i64 p.kind) := hI 0 _ rfl; have k2 : w.cell? ⟨Bx, O + k * 12 + 2, none⟩ = some (.int .i64 p.o.node) := hI 2 _ rfl; have k3 : w.cell? ⟨Bx, O + k * 12 + 3, none⟩ = some (.int .u64 (p.o.epoch : Int)) := hI 3 _ rfl; have k4 : w.cell? ⟨Bx, O + k * 12 + 4, none⟩ = some (.int .u64 (p.o.seq : Int)) := hI 4 _ rfl; have k5 : w.cell? ⟨Bx, O + k * 12 + 5, none⟩ = some (.int .i64 p.o.tr) := hI 5 _ rfl; have y3 : w.cell? ⟨Bx, O + k * 12 + 2 + 1, none⟩ = some (.int .u64 (p.o.epoch : Int)) := hI 3 _ rfl; have y4 : w.cell? ⟨Bx, O + k * 12 + 2 + 2, none⟩ = some (.int .u64 (p.o.seq : Int)) := hI 4 _ rfl; have y5 : w.cell? ⟨Bx, O + k * 12 + 2 + 3, none⟩ = some (.int .i64 p.o.tr) := hI 5 _ rfl; have b2 : w.cell? ⟨q2, 0, none⟩ = some (.int .i64 i.o.node) := hB.cell 0; have b3 : w.cell? ⟨q2, 1, none⟩ = some (.int .u64 (i.o.epoch : Int)) := hB.cell 1; have b4 : w.cell? ⟨q2, 2, none⟩ = some (.int .u64 (i.o.seq : Int)) := hB.cell 2; have b5 : w.cell? ⟨q2, 3, none⟩ = some (.int .i64 i.o.tr) := hB.cell 3; clear hI hB; go_simp) <;> (with_reducible rfl)
              try simp only [Act.put, List.setIfInBounds_toArray, List.set_cons_zero, List.set_cons_succ]
              refine wpAnyH_take (i := 21) (oi := ⟨some 63, _, _, _, _, _⟩) (v := ?_) rfl (by kernel_rfl) (by kernel_rfl) (by kernel_rfl) (fun _ _ _ h => h) (Or.inl ⟨by rfl, ?_⟩) (by assumption) ?_
              rotate_left 1
              · (intro w hSw; (try dsimp only at hSw); obtain ⟨hI, hB⟩ := hSw; have k0 : w.cell? ⟨Bx, O + k * 12, none⟩ = some (.int .i64 p.kind) := hI 0 _ rfl; have k2 : w.cell? ⟨Bx, O + k * 12 + 2, none⟩ = some (.int .i64 p.o.node) := hI 2 _ rfl; have k3 : w.cell? ⟨Bx, O + k * 12 + 3, none⟩ = some (.int .u64 (p.o.epoch : Int)) := hI 3 _ rfl; have k4 : w.cell? ⟨Bx, O + k * 12 + 4, none⟩ = some (.int .u64 (p.o.seq : Int)) := hI 4 _ rfl; have k5 : w.cell? ⟨Bx, O + k * 12 + 5, none⟩ = some (.int .i64 p.o.tr) := hI 5 _ rfl; have y3 : w.cell? ⟨Bx, O + k * 12 + 2 + 1, none⟩ = some (.int .u64 (p.o.epoch : Int)) := hI 3 _ rfl; have y4 : w.cell? ⟨Bx, O + k * 12 + 2 + 2, none⟩ = some (.int .u64 (p.o.seq : Int)) := hI 4 _ rfl; have y5 : w.cell? ⟨Bx, O + k * 12 + 2 + 3, none⟩ = some (.int .i64 p.o.tr) := hI 5 _ rfl; have b2 : w.cell? ⟨q2, 0, none⟩ = some (.int .i64 i.o.node) := hB.cell 0; have b3 : w.cell? ⟨q2, 1, none⟩ = some (.int .u64 (i.o.epoch : Int)) := hB.cell 1; have b4 : w.cell? ⟨q2, 2, none⟩ = some (.int .u64 (i.o.seq : Int)) := hB.cell 2; have b5 : w.cell? ⟨q2, 3, none⟩ = some (.int .i64 i.o.tr) := hB.cell 3; clear hI hB; go_simp) <;> (with_reducible rfl)
              try simp only [Act.put, List.setIfInBounds_toArray, List.set_cons_zero, List.set_cons_succ]
              refine wpAnyH_ready (rs := [22]) (by kernel_rfl) (by simp) ?_
              refine AllReadyH.cons (o := ⟨some 64, _, _, _, _, _⟩) rfl (fun K hK => ?_) AllReadyH.nil
              go_simp
              go_at_call 15
              refine HCJ.out.mono ?_
              clear HCJ hHeld
              rintro e w5 ⟨he, hf5⟩
              obtain rfl : e = .returned (.bool true) := he
              have HF5 : Hid (Fr NoBlk wr w5) := (Fr.refl _ _).drew.trans hf5
              clear hf5
              refine hK.out _ _ ?_ (fun hHeld => ?_)
              · exact HSJ.out _ HF5.out
              clear hK K
              try simp only [Act.put, List.setIfInBounds_toArray, List.set_cons_zero, List.set_cons_succ]
              refine wpAnyH_take (i := 23) (oi := ⟨some 65, _, _, _, _, _⟩) (v := ?_) rfl (by kernel_rfl) (by kernel_rfl) (by kernel_rfl) (fun _ _ _ h => h) (Or.inl ⟨by rfl, ?_⟩) (by assumption) ?_
              rotate_left 1
              · (intro w hSw; (try dsimp only at hSw); obtain ⟨hI, hB⟩ := hSw; have k0 : w.cell? ⟨Bx, O + k * 12, none⟩ = some (.int .i64 p.kind) := hI 0 _ rfl; have k2 : w.cell? ⟨Bx, O + k * 12 + 2, none⟩ = some (.int .i64 p.o.node) := hI 2 _ rfl; have k3 : w.cell? ⟨Bx, O + k * 12 + 3, none⟩ = some (.int .u64 (p.o.epoch : Int)) := hI 3 _ rfl; have k4 : w.cell? ⟨Bx, O + k * 12 + 4, none⟩ = some (.int .u64 (p.o.seq : Int)) := hI 4 _ rfl; have k5 : w.cell? ⟨Bx, O + k * 12 + 5, none⟩ = some (.int .i64 p.o.tr) := hI 5 _ rfl; have y3 : w.cell? ⟨Bx, O + k * 12 + 2 + 1, none⟩ = some (.int .u64 (p.o.epoch : Int)) := hI 3 _ rfl; have y4 : w.cell? ⟨Bx, O + k * 12 + 2 + 2, none⟩ = some (.int .u64 (p.o.seq : Int)) := hI 4 _ rfl; have y5 : w.cell? ⟨Bx, O + k * 12 + 2 + 3, none⟩ = some (.int .i64 p.o.tr) := hI 5 _ rfl; have b2 : w.cell? ⟨q2, 0, none⟩ = some (.int .i64 i.o.node) := hB.cell 0; have b3 : w.cell? ⟨q2, 1, none⟩ = some (.int .u64 (i.o.epoch : Int)) := hB.cell 1; have b4 : w.cell? ⟨q2, 2, none⟩ = some (.int .u64 (i.o.seq : Int)) := hB.cell 2; have b5 : w.cell? ⟨q2, 3, none⟩ = some (.int .i64 i.o.tr) := hB.cell 3; clear hI hB; go_simp) <;> (with_reducible rfl)
              try simp only [Act.put, List.setIfInBounds_toArray, List.set_cons_zero, List.set_cons_succ]
              refine wpAnyH_take (i := 24) (oi := ⟨some 66, _, _, _, _, _⟩) (v := ?_) rfl (by kernel_rfl) (by kernel_rfl) (by kernel_rfl) (fun _ _ _ h => h) (Or.inl ⟨by rfl, ?_⟩) (by assumption) ?_
              rotate_left 1
              · (intro w hSw; (try dsimp only at hSw); obtain ⟨hI, hB⟩ := hSw; have k0 : w.cell? ⟨Bx, O + k * 12, none⟩ = some (.int .i64 p.kind) := hI 0 _ rfl; have k2 : w.cell? ⟨Bx, O + k * 12 + 2, none⟩ = some (.int .i64 p.o.node) := hI 2 _ rfl; have k3 : w.cell? ⟨Bx, O + k * 12 + 3, none⟩ = some (.int .u64 (p.o.epoch : Int)) := hI 3 _ rfl; have k4 : w.cell? ⟨Bx, O + k * 12 + 4, none⟩ = some (.int .u64 (p.o.seq : Int)) := hI 4 _ rfl; have k5 : w.cell? ⟨Bx, O + k * 12 + 5, none⟩ = some (.int .i64 p.o.tr) := hI 5 _ rfl; have y3 : w.cell? ⟨Bx, O + k * 12 + 2 + 1, none⟩ = some (.int .u64 (p.o.epoch : Int)) := hI 3 _ rfl; have y4 : w.cell? ⟨Bx, O + k * 12 + 2 + 2, none⟩ = some (.int .u64 (p.o.seq : Int)) := hI 4 _ rfl; have y5 : w.cell? ⟨Bx, O + k * 12 + 2 + 3, none⟩ = some (.int .i64 p.o.tr) := hI 5 _ rfl; have b2 : w.cell? ⟨q2, 0, none⟩ = some (.int .i64 i.o.node) := hB.cell 0; have b3 : w.cell? ⟨q2, 1, none⟩ = some (.int .u64 (i.o.epoch : Int)) := hB.cell 1; have b4 : w.cell? ⟨q2, 2, none⟩ = some (.int .u64 (i.o.seq : Int)) := hB.cell 2; have b5 : w.cell? ⟨q2, 3, none⟩ = some (.int .i64 i.o.tr) := hB.cell 3; clear hI hB; go_simp) <;> (with_reducible rfl)
              try simp only [Act.put, List.setIfInBounds_toArray, List.set_cons_zero, List.set_cons_succ]
              refine wpAnyH_take (i := 25) (oi := ⟨some 9, _, _, _, _, _⟩) (v := ?_) rfl (by kernel_rfl) (by kernel_rfl) (by kernel_rfl) (fun _ _ _ h => h) (Or.inl ⟨by rfl, ?_⟩) (by assumption) ?_
              rotate_left 1
              · (intro w hSw; (try dsimp only at hSw); obtain ⟨hI, hB⟩ := hSw; have k0 : w.cell? ⟨Bx, O + k * 12, none⟩ = some (.int .i64 p.kind) := hI 0 _ rfl; have k2 : w.cell? ⟨Bx, O + k * 12 + 2, none⟩ = some (.int .i64 p.o.node) := hI 2 _ rfl; have k3 : w.cell? ⟨Bx, O + k * 12 + 3, none⟩ = some (.int .u64 (p.o.epoch : Int)) := hI 3 _ rfl; have k4 : w.cell? ⟨Bx, O + k * 12 + 4, none⟩ = some (.int .u64 (p.o.seq : Int)) := hI 4 _ rfl; have k5 : w.cell? ⟨Bx, O + k * 12 + 5, none⟩ = some (.int .i64 p.o.tr) := hI 5 _ rfl; have y3 : w.cell? ⟨Bx, O + k * 12 + 2 + 1, none⟩ = some (.int .u64 (p.o.epoch : Int)) := hI 3 _ rfl; have y4 : w.cell? ⟨Bx, O + k * 12 + 2 + 2, none⟩ = some (.int .u64 (p.o.seq : Int)) := hI 4 _ rfl; have y5 : w.cell? ⟨Bx, O + k * 12 + 2 + 3, none⟩ = some (.int .i64 p.o.tr) := hI 5 _ rfl; have b2 : w.cell? ⟨q2, 0, none⟩ = some (.int .i64 i.o.node) := hB.cell 0; have b3 : w.cell? ⟨q2, 1, none⟩ = some (.int .u64 (i.o.epoch : Int)) := hB.cell 1; have b4 : w.cell? ⟨q2, 2, none⟩ = some (.int .u64 (i.o.seq : Int)) := hB.cell 2; have b5 : w.cell? ⟨q2, 3, none⟩ = some (.int .i64 i.o.tr) := hB.cell 3; clear hI hB; go_simp) <;> (with_reducible rfl)
              try simp only [Act.put, List.setIfInBounds_toArray, List.set_cons_zero, List.set_cons_succ]
              refine wpAnyH_done (by kernel_rfl) ?_ _
              go_wp2_with fail
              go_roundw
              case rel => exact ⟨k + 1, by omega, ⟨ret_had HNE.out, by go_num⟩, HFQ.out.trans HF5.out⟩
              case measure => simp [intOf]; omega
        · have i3 : (n : Int) ≤ (k : Int) := by omega
          obtain rfl : k = n := by omega
          have HFLq := Lib.hid (HFLb.out.nofr HFQ.out)
          have HBM : Hid (∀ W, Fr (fun b => b = bm ∨ b = g) wr W → Fr NoBlk w W) := fun W hW => (HFRb.out.trans HFQ.out).step hW fun j hj e => by have := HBB.out; omega
          have HSD : Hid (∀ W, Fr (fun b => b = bm ∨ b = g) wr W → Bk W q 40 #[.int .i64 i.kind, .int .i64 i.index, .int .i64 i.o.node, .int .u64 (i.o.epoch : Int), .int .u64 (i.o.seq : Int), .int .i64 i.o.tr, .int .i64 i.o.t.kind, .slice i.o.t.ra i.o.t.reads.length i.o.t.rc, .slice i.o.t.wa i.o.t.writes.length i.o.t.wc, .slice i.o.t.oa i.o.t.ops.length i.o.t.oc, .int .i64 i.o.t.to, .slice i.o.ma i.o.marks.length i.o.mc] ∧ Bk W q2 31 #[.int .i64 i.o.node, .int .u64 (i.o.epoch : Int), .int .u64 (i.o.seq : Int), .int .i64 i.o.tr]) := fun W hW => HSD0.out W ((HFQ.out.mono fun _ _ e => e.elim).trans hW)
          have HHA := Lib.hid (fhas_any wr.drew B g bm s rg _ _ (HFLq.out.nofr (Fr.refl _ _).drew) (tgOf i.o) HTK.out)
          have HLS : Hid (∀ W, Fr NoBlk w W → Calls Try.prog 18 #[.int .i64 rg, .slice (some ⟨Bx, O, none⟩) k c] W fun e w' => e = .returned (.int .i64 (laN rg xs k)) ∧ Fr NoBlk W w') := fun W hW => dlast_any W rg _ c xs (HR.out.nofr hW) k (by omega) HLL.out fun x hx => ⟨(HX.out x hx).1.nofr hW, HMK.out x hx⟩
          have HIS : Hid (∀ W, Fl W B g bm s rg (laN rg xs k) (mN rg xs k) → Fr NoBlk w W → Calls Try.prog 19 #[.pointer (some ⟨g, 0, none⟩), imv i] W fun e w' => e = .returned (.bool (countN rg xs k i)) ∧ (∃ s', s' ≤ s + 1 ∧ Fl w' B g bm s' rg (laN rg xs (k + 1)) (mN rg xs (k + 1))) ∧ Fr (fun b => b = bm ∨ b = g) W w') := fun W hf hW => by
            have hh := fitem_any W B g bm s rg _ _ hf (by have := HSL.out; have := HLL.out; omega) i ((HX.out i (List.mem_of_getElem? HII.out)).1.nofr hW) HMI.out HTK.out
            unfold ItemPost at hh
            rw [← laN_next HII.out, ← mN_next HII.out] at hh
            exact hh
          have HCS : Hid (∀ W, Fr NoBlk w W → Calls Try.prog 15 #[.int .i64 rg, .slice (some ⟨Bx, O, none⟩) xs.length c, .int .i64 k] W fun e w' => e = .returned (.bool (countN rg xs k i)) ∧ Fr NoBlk W w') := fun W hW => counts_any rg _ c xs HLL.out hlc hcm k W i HII.out (HR.out.nofr hW) fun x hx => ⟨(HX.out x hx).1.nofr hW, HMK.out x hx⟩
          have hh1 := bne_same (mN rg xs k (tgOf i.o))
          have hh2 := bne_int (laN rg xs k)
          have hh3 := bne_same (countN rg xs k i)
          clear HFLb HFRb HFQ HSD0 hk hlt2
          unfold imv ima at HIS
          unfold tgv at HHA
          obtain ⟨hd, hhd⟩ : ∃ hd, hd = mN rg xs k (tgOf i.o) := ⟨_, rfl⟩
          rw [← hhd] at hh1 HHA ⊢
          unfold tgOf at HHA
          dsimp only at HHA
          go_wp2_with fail
          refine wp_region_held_drew (S := fun w' => Bk w' q 40 #[.int .i64 i.kind, .int .i64 i.index, .int .i64 i.o.node, .int .u64 (i.o.epoch : Int), .int .u64 (i.o.seq : Int), .int .i64 i.o.tr, .int .i64 i.o.t.kind, .slice i.o.t.ra i.o.t.reads.length i.o.t.rc, .slice i.o.t.wa i.o.t.writes.length i.o.t.wc, .slice i.o.t.oa i.o.t.ops.length i.o.t.oc, .int .i64 i.o.t.to, .slice i.o.ma i.o.marks.length i.o.mc] ∧ Bk w' q2 31 #[.int .i64 i.o.node, .int .u64 (i.o.epoch : Int), .int .u64 (i.o.seq : Int), .int .i64 i.o.tr]) (by kernel_rfl) (HSD.out _ (Fr.refl _ _).drew) (fun hHeld => ?_)
          refine wpAnyH_take (i := 0) (oi := ⟨some 67, _, _, _, _, _⟩) (v := ?_) rfl (by kernel_rfl) (by kernel_rfl) (by kernel_rfl) (fun _ _ _ h => h) (Or.inl ⟨by rfl, ?_⟩) (by assumption) ?_
          rotate_left 1
          · (intro w hSw; (try dsimp only at hSw); obtain ⟨hB, hC⟩ := hSw; have k0 := hB.cell 0; have k1 := hB.cell 1; have k2 := hB.cell 2; have k3 := hB.cell 3; have k4 := hB.cell 4; have k5 := hB.cell 5; have k6 := hB.cell 6; have k7 := hB.cell 7; have k8 := hB.cell 8; have k9 := hB.cell 9; have k10 := hB.cell 10; have k11 := hB.cell 11; have b0 := hC.cell 0; have b1 := hC.cell 1; have b2 := hC.cell 2; have b3 := hC.cell 3; clear hB hC; simp only [List.getElem?_toArray, List.getElem?_cons_succ, List.getElem?_cons_zero] at k0 k1 k2 k3 k4 k5 k6 k7 k8 k9 k10 k11 b0 b1 b2 b3; go_simp) <;> (with_reducible rfl)
          try simp only [Act.put, List.setIfInBounds_toArray, List.set_cons_zero, List.set_cons_succ]
          refine wpAnyH_take (i := 1) (oi := ⟨some 68, _, _, _, _, _⟩) (v := ?_) rfl (by kernel_rfl) (by kernel_rfl) (by kernel_rfl) (fun _ _ _ h => h) (Or.inl ⟨by rfl, ?_⟩) (by assumption) ?_
          rotate_left 1
          · (intro w hSw; (try dsimp only at hSw); obtain ⟨hB, hC⟩ := hSw; have k0 := hB.cell 0; have k1 := hB.cell 1; have k2 := hB.cell 2; have k3 := hB.cell 3; have k4 := hB.cell 4; have k5 := hB.cell 5; have k6 := hB.cell 6; have k7 := hB.cell 7; have k8 := hB.cell 8; have k9 := hB.cell 9; have k10 := hB.cell 10; have k11 := hB.cell 11; have b0 := hC.cell 0; have b1 := hC.cell 1; have b2 := hC.cell 2; have b3 := hC.cell 3; clear hB hC; simp only [List.getElem?_toArray, List.getElem?_cons_succ, List.getElem?_cons_zero] at k0 k1 k2 k3 k4 k5 k6 k7 k8 k9 k10 k11 b0 b1 b2 b3; go_simp) <;> (with_reducible rfl)
          try simp only [Act.put, List.setIfInBounds_toArray, List.set_cons_zero, List.set_cons_succ]
          refine wpAnyH_take (i := 3) (oi := ⟨some 70, _, _, _, _, _⟩) (v := ?_) rfl (by kernel_rfl) (by kernel_rfl) (by kernel_rfl) (fun _ _ _ h => h) (Or.inl ⟨by rfl, ?_⟩) (by assumption) ?_
          rotate_left 1
          · (intro w hSw; (try dsimp only at hSw); obtain ⟨hB, hC⟩ := hSw; have k0 := hB.cell 0; have k1 := hB.cell 1; have k2 := hB.cell 2; have k3 := hB.cell 3; have k4 := hB.cell 4; have k5 := hB.cell 5; have k6 := hB.cell 6; have k7 := hB.cell 7; have k8 := hB.cell 8; have k9 := hB.cell 9; have k10 := hB.cell 10; have k11 := hB.cell 11; have b0 := hC.cell 0; have b1 := hC.cell 1; have b2 := hC.cell 2; have b3 := hC.cell 3; clear hB hC; simp only [List.getElem?_toArray, List.getElem?_cons_succ, List.getElem?_cons_zero] at k0 k1 k2 k3 k4 k5 k6 k7 k8 k9 k10 k11 b0 b1 b2 b3; go_simp) <;> (with_reducible rfl)
          try simp only [Act.put, List.setIfInBounds_toArray, List.set_cons_zero, List.set_cons_succ]
          refine wpAnyH_ready (rs := [2]) (by kernel_rfl) (by simp) ?_
          refine AllReadyH.cons (o := ⟨some 69, _, _, _, _, _⟩) rfl (fun K hK => ?_) AllReadyH.nil
          go_simp
          go_at_call 16
          refine HHA.out.mono ?_
          clear HHA hHeld
          rintro e w3 ⟨rfl, hf3⟩
          have HF3 : Hid (Fr (fun b => b = bm ∨ b = g) wr w3) := (Fr.refl _ _).drew.trans (hf3.mono fun _ _ e => e.elim)
          have H3 := Lib.hid ((HFLq.out.nofr (Fr.refl _ _).drew).nofr hf3)
          have HLA := Lib.hid (flast_any w3 _ _ _ _ _ _ _ H3.out)
          clear hf3
          refine hK.out _ _ ?_ (fun hHeld => ?_)
          · exact HSD.out _ HF3.out
          clear hK K
          try simp only [Act.put, List.setIfInBounds_toArray, List.set_cons_zero, List.set_cons_succ]
          refine wpAnyH_take (i := 4) (oi := ⟨some 71, _, _, _, _, _⟩) (v := ?_) rfl (by kernel_rfl) (by kernel_rfl) (by kernel_rfl) (fun _ _ _ h => h) (Or.inl ⟨by rfl, ?_⟩) (by assumption) ?_
          rotate_left 1
          · (intro w hSw; (try dsimp only at hSw); obtain ⟨hB, hC⟩ := hSw; have k0 := hB.cell 0; have k1 := hB.cell 1; have k2 := hB.cell 2; have k3 := hB.cell 3; have k4 := hB.cell 4; have k5 := hB.cell 5; have k6 := hB.cell 6; have k7 := hB.cell 7; have k8 := hB.cell 8; have k9 := hB.cell 9; have k10 := hB.cell 10; have k11 := hB.cell 11; have b0 := hC.cell 0; have b1 := hC.cell 1; have b2 := hC.cell 2; have b3 := hC.cell 3; clear hB hC; simp only [List.getElem?_toArray, List.getElem?_cons_succ, List.getElem?_cons_zero] at k0 k1 k2 k3 k4 k5 k6 k7 k8 k9 k10 k11 b0 b1 b2 b3; go_simp) <;> (with_reducible rfl)
          try simp only [Act.put, List.setIfInBounds_toArray, List.set_cons_zero, List.set_cons_succ]
          refine wpAnyH_take (i := 5) (oi := ⟨some 72, _, _, _, _, _⟩) (v := ?_) rfl (by kernel_rfl) (by kernel_rfl) (by kernel_rfl) (fun _ _ _ h => h) (Or.inl ⟨by rfl, ?_⟩) (by assumption) ?_
          rotate_left 1
          · (intro w hSw; (try dsimp only at hSw); obtain ⟨hB, hC⟩ := hSw; have k0 := hB.cell 0; have k1 := hB.cell 1; have k2 := hB.cell 2; have k3 := hB.cell 3; have k4 := hB.cell 4; have k5 := hB.cell 5; have k6 := hB.cell 6; have k7 := hB.cell 7; have k8 := hB.cell 8; have k9 := hB.cell 9; have k10 := hB.cell 10; have k11 := hB.cell 11; have b0 := hC.cell 0; have b1 := hC.cell 1; have b2 := hC.cell 2; have b3 := hC.cell 3; clear hB hC; simp only [List.getElem?_toArray, List.getElem?_cons_succ, List.getElem?_cons_zero] at k0 k1 k2 k3 k4 k5 k6 k7 k8 k9 k10 k11 b0 b1 b2 b3; go_simp) <;> (with_reducible rfl)
          try simp only [Act.put, List.setIfInBounds_toArray, List.set_cons_zero, List.set_cons_succ]
          refine wpAnyH_take (i := 6) (oi := ⟨some 73, _, _, _, _, _⟩) (v := ?_) rfl (by kernel_rfl) (by kernel_rfl) (by kernel_rfl) (fun _ _ _ h => h) (Or.inl ⟨by rfl, ?_⟩) (by assumption) ?_
          rotate_left 1
          · (intro w hSw; (try dsimp only at hSw); obtain ⟨hB, hC⟩ := hSw; have k0 := hB.cell 0; have k1 := hB.cell 1; have k2 := hB.cell 2; have k3 := hB.cell 3; have k4 := hB.cell 4; have k5 := hB.cell 5; have k6 := hB.cell 6; have k7 := hB.cell 7; have k8 := hB.cell 8; have k9 := hB.cell 9; have k10 := hB.cell 10; have k11 := hB.cell 11; have b0 := hC.cell 0; have b1 := hC.cell 1; have b2 := hC.cell 2; have b3 := hC.cell 3; clear hB hC; simp only [List.getElem?_toArray, List.getElem?_cons_succ, List.getElem?_cons_zero] at k0 k1 k2 k3 k4 k5 k6 k7 k8 k9 k10 k11 b0 b1 b2 b3; go_simp) <;> (with_reducible rfl)
          try simp only [Act.put, List.setIfInBounds_toArray, List.set_cons_zero, List.set_cons_succ]
          refine wpAnyH_take (i := 8) (oi := ⟨some 75, _, _, _, _, _⟩) (v := ?_) rfl (by kernel_rfl) (by kernel_rfl) (by kernel_rfl) (fun _ _ _ h => h) (Or.inl ⟨by rfl, ?_⟩) (by assumption) ?_
          rotate_left 1
          · (intro w hSw; (try dsimp only at hSw); obtain ⟨hB, hC⟩ := hSw; have k0 := hB.cell 0; have k1 := hB.cell 1; have k2 := hB.cell 2; have k3 := hB.cell 3; have k4 := hB.cell 4; have k5 := hB.cell 5; have k6 := hB.cell 6; have k7 := hB.cell 7; have k8 := hB.cell 8; have k9 := hB.cell 9; have k10 := hB.cell 10; have k11 := hB.cell 11; have b0 := hC.cell 0; have b1 := hC.cell 1; have b2 := hC.cell 2; have b3 := hC.cell 3; clear hB hC; simp only [List.getElem?_toArray, List.getElem?_cons_succ, List.getElem?_cons_zero] at k0 k1 k2 k3 k4 k5 k6 k7 k8 k9 k10 k11 b0 b1 b2 b3; go_simp) <;> (with_reducible rfl)
          try simp only [Act.put, List.setIfInBounds_toArray, List.set_cons_zero, List.set_cons_succ]
          refine wpAnyH_take (i := 9) (oi := ⟨some 76, _, _, _, _, _⟩) (v := ?_) rfl (by kernel_rfl) (by kernel_rfl) (by kernel_rfl) (fun _ _ _ h => h) (Or.inl ⟨by rfl, ?_⟩) (by assumption) ?_
          rotate_left 1
          · (intro w hSw; (try dsimp only at hSw); obtain ⟨hB, hC⟩ := hSw; have k0 := hB.cell 0; have k1 := hB.cell 1; have k2 := hB.cell 2; have k3 := hB.cell 3; have k4 := hB.cell 4; have k5 := hB.cell 5; have k6 := hB.cell 6; have k7 := hB.cell 7; have k8 := hB.cell 8; have k9 := hB.cell 9; have k10 := hB.cell 10; have k11 := hB.cell 11; have b0 := hC.cell 0; have b1 := hC.cell 1; have b2 := hC.cell 2; have b3 := hC.cell 3; clear hB hC; simp only [List.getElem?_toArray, List.getElem?_cons_succ, List.getElem?_cons_zero] at k0 k1 k2 k3 k4 k5 k6 k7 k8 k9 k10 k11 b0 b1 b2 b3; go_simp) <;> (with_reducible rfl)
          try simp only [Act.put, List.setIfInBounds_toArray, List.set_cons_zero, List.set_cons_succ]
          refine wpAnyH_take (i := 10) (oi := ⟨some 77, _, _, _, _, _⟩) (v := ?_) rfl (by kernel_rfl) (by kernel_rfl) (by kernel_rfl) (fun _ _ _ h => h) (Or.inl ⟨by rfl, ?_⟩) (by assumption) ?_
          rotate_left 1
          · (intro w hSw; (try dsimp only at hSw); obtain ⟨hB, hC⟩ := hSw; have k0 := hB.cell 0; have k1 := hB.cell 1; have k2 := hB.cell 2; have k3 := hB.cell 3; have k4 := hB.cell 4; have k5 := hB.cell 5; have k6 := hB.cell 6; have k7 := hB.cell 7; have k8 := hB.cell 8; have k9 := hB.cell 9; have k10 := hB.cell 10; have k11 := hB.cell 11; have b0 := hC.cell 0; have b1 := hC.cell 1; have b2 := hC.cell 2; have b3 := hC.cell 3; clear hB hC; simp only [List.getElem?_toArray, List.getElem?_cons_succ, List.getElem?_cons_zero] at k0 k1 k2 k3 k4 k5 k6 k7 k8 k9 k10 k11 b0 b1 b2 b3; go_simp) <;> (with_reducible rfl)
          try simp only [Act.put, List.setIfInBounds_toArray, List.set_cons_zero, List.set_cons_succ]
          refine wpAnyH_take (i := 11) (oi := ⟨some 78, _, _, _, _, _⟩) (v := ?_) rfl (by kernel_rfl) (by kernel_rfl) (by kernel_rfl) (fun _ _ _ h => h) (Or.inl ⟨by rfl, ?_⟩) (by assumption) ?_
          rotate_left 1
          · (intro w hSw; (try dsimp only at hSw); obtain ⟨hB, hC⟩ := hSw; have k0 := hB.cell 0; have k1 := hB.cell 1; have k2 := hB.cell 2; have k3 := hB.cell 3; have k4 := hB.cell 4; have k5 := hB.cell 5; have k6 := hB.cell 6; have k7 := hB.cell 7; have k8 := hB.cell 8; have k9 := hB.cell 9; have k10 := hB.cell 10; have k11 := hB.cell 11; have b0 := hC.cell 0; have b1 := hC.cell 1; have b2 := hC.cell 2; have b3 := hC.cell 3; clear hB hC; simp only [List.getElem?_toArray, List.getElem?_cons_succ, List.getElem?_cons_zero] at k0 k1 k2 k3 k4 k5 k6 k7 k8 k9 k10 k11 b0 b1 b2 b3; go_simp) <;> (with_reducible rfl)
          try simp only [Act.put, List.setIfInBounds_toArray, List.set_cons_zero, List.set_cons_succ]
          refine wpAnyH_ready (rs := [7]) (by kernel_rfl) (by simp) ?_
          refine AllReadyH.cons (o := ⟨some 74, _, _, _, _, _⟩) rfl (fun K hK => ?_) AllReadyH.nil
          go_simp
          go_at_call 17
          refine HLA.out.mono ?_
          clear HLA hHeld
          rintro e _ ⟨rfl, rfl⟩
          have HLR := Lib.hid (HLS.out _ (HBM.out _ HF3.out))
          refine hK.out _ _ ?_ (fun hHeld => ?_)
          · exact HSD.out _ HF3.out
          clear hK K
          try simp only [Act.put, List.setIfInBounds_toArray, List.set_cons_zero, List.set_cons_succ]
          refine wpAnyH_ready (rs := [12]) (by kernel_rfl) (by simp) ?_
          refine AllReadyH.cons (o := ⟨some 79, _, _, _, _, _⟩) rfl (fun K hK => ?_) AllReadyH.nil
          go_simp
          go_at_call 18
          refine HLR.out.mono ?_
          clear HLR hHeld
          rintro e w4 ⟨rfl, hf4⟩
          have HF4 : Hid (Fr (fun b => b = bm ∨ b = g) wr w4) := HF3.out.trans (hf4.mono fun _ _ e => e.elim)
          have HIT := Lib.hid (HIS.out _ (H3.out.nofr hf4) (HBM.out _ HF4.out))
          clear hf4 H3
          refine hK.out _ _ ?_ (fun hHeld => ?_)
          · exact HSD.out _ HF4.out
          clear hK K
          try simp only [Act.put, List.setIfInBounds_toArray, List.set_cons_zero, List.set_cons_succ]
          refine wpAnyH_take (i := 13) (oi := ⟨some 80, _, _, _, _, _⟩) (v := ?_) rfl (by kernel_rfl) (by kernel_rfl) (by kernel_rfl) (fun _ _ _ h => h) (Or.inl ⟨by rfl, ?_⟩) (by assumption) ?_
          rotate_left 1
          · (intro w hSw; (try dsimp only at hSw); obtain ⟨hB, hC⟩ := hSw; have k0 := hB.cell 0; have k1 := hB.cell 1; have k2 := hB.cell 2; have k3 := hB.cell 3; have k4 := hB.cell 4; have k5 := hB.cell 5; have k6 := hB.cell 6; have k7 := hB.cell 7; have k8 := hB.cell 8; have k9 := hB.cell 9; have k10 := hB.cell 10; have k11 := hB.cell 11; have b0 := hC.cell 0; have b1 := hC.cell 1; have b2 := hC.cell 2; have b3 := hC.cell 3; clear hB hC; simp only [List.getElem?_toArray, List.getElem?_cons_succ, List.getElem?_cons_zero] at k0 k1 k2 k3 k4 k5 k6 k7 k8 k9 k10 k11 b0 b1 b2 b3; go_simp) <;> (with_reducible rfl)
          try simp only [Act.put, List.setIfInBounds_toArray, List.set_cons_zero, List.set_cons_succ]
          refine wpAnyH_take (i := 14) (oi := ⟨some 81, _, _, _, _, _⟩) (v := ?_) rfl (by kernel_rfl) (by kernel_rfl) (by kernel_rfl) (fun _ _ _ h => h) (Or.inl ⟨by rfl, ?_⟩) (by assumption) ?_
          rotate_left 1
          · (intro w hSw; (try dsimp only at hSw); obtain ⟨hB, hC⟩ := hSw; have k0 := hB.cell 0; have k1 := hB.cell 1; have k2 := hB.cell 2; have k3 := hB.cell 3; have k4 := hB.cell 4; have k5 := hB.cell 5; have k6 := hB.cell 6; have k7 := hB.cell 7; have k8 := hB.cell 8; have k9 := hB.cell 9; have k10 := hB.cell 10; have k11 := hB.cell 11; have b0 := hC.cell 0; have b1 := hC.cell 1; have b2 := hC.cell 2; have b3 := hC.cell 3; clear hB hC; simp only [List.getElem?_toArray, List.getElem?_cons_succ, List.getElem?_cons_zero] at k0 k1 k2 k3 k4 k5 k6 k7 k8 k9 k10 k11 b0 b1 b2 b3; go_simp) <;> (with_reducible rfl)
          try simp only [Act.put, List.setIfInBounds_toArray, List.set_cons_zero, List.set_cons_succ]
          refine wpAnyH_take (i := 15) (oi := ⟨some 82, _, _, _, _, _⟩) (v := ?_) rfl (by kernel_rfl) (by kernel_rfl) (by kernel_rfl) (fun _ _ _ h => h) (Or.inl ⟨by rfl, ?_⟩) (by assumption) ?_
          rotate_left 1
          · (intro w hSw; (try dsimp only at hSw); obtain ⟨hB, hC⟩ := hSw; have k0 := hB.cell 0; have k1 := hB.cell 1; have k2 := hB.cell 2; have k3 := hB.cell 3; have k4 := hB.cell 4; have k5 := hB.cell 5; have k6 := hB.cell 6; have k7 := hB.cell 7; have k8 := hB.cell 8; have k9 := hB.cell 9; have k10 := hB.cell 10; have k11 := hB.cell 11; have b0 := hC.cell 0; have b1 := hC.cell 1; have b2 := hC.cell 2; have b3 := hC.cell 3; clear hB hC; simp only [List.getElem?_toArray, List.getElem?_cons_succ, List.getElem?_cons_zero] at k0 k1 k2 k3 k4 k5 k6 k7 k8 k9 k10 k11 b0 b1 b2 b3; go_simp) <;> (with_reducible rfl)
          try simp only [Act.put, List.setIfInBounds_toArray, List.set_cons_zero, List.set_cons_succ]
          refine wpAnyH_take (i := 16) (oi := ⟨some 83, _, _, _, _, _⟩) (v := ?_) rfl (by kernel_rfl) (by kernel_rfl) (by kernel_rfl) (fun _ _ _ h => h) (Or.inl ⟨by rfl, ?_⟩) (by assumption) ?_
          rotate_left 1
          · (intro w hSw; (try dsimp only at hSw); obtain ⟨hB, hC⟩ := hSw; have k0 := hB.cell 0; have k1 := hB.cell 1; have k2 := hB.cell 2; have k3 := hB.cell 3; have k4 := hB.cell 4; have k5 := hB.cell 5; have k6 := hB.cell 6; have k7 := hB.cell 7; have k8 := hB.cell 8; have k9 := hB.cell 9; have k10 := hB.cell 10; have k11 := hB.cell 11; have b0 := hC.cell 0; have b1 := hC.cell 1; have b2 := hC.cell 2; have b3 := hC.cell 3; clear hB hC; simp only [List.getElem?_toArray, List.getElem?_cons_succ, List.getElem?_cons_zero] at k0 k1 k2 k3 k4 k5 k6 k7 k8 k9 k10 k11 b0 b1 b2 b3; go_simp) <;> (with_reducible rfl)
          try simp only [Act.put, List.setIfInBounds_toArray, List.set_cons_zero, List.set_cons_succ]
          refine wpAnyH_take (i := 17) (oi := ⟨some 84, _, _, _, _, _⟩) (v := ?_) rfl (by kernel_rfl) (by kernel_rfl) (by kernel_rfl) (fun _ _ _ h => h) (Or.inl ⟨by rfl, ?_⟩) (by assumption) ?_
          rotate_left 1
          · (intro w hSw; (try dsimp only at hSw); obtain ⟨hB, hC⟩ := hSw; have k0 := hB.cell 0; have k1 := hB.cell 1; have k2 := hB.cell 2; have k3 := hB.cell 3; have k4 := hB.cell 4; have k5 := hB.cell 5; have k6 := hB.cell 6; have k7 := hB.cell 7; have k8 := hB.cell 8; have k9 := hB.cell 9; have k10 := hB.cell 10; have k11 := hB.cell 11; have b0 := hC.cell 0; have b1 := hC.cell 1; have b2 := hC.cell 2; have b3 := hC.cell 3; clear hB hC; simp only [List.getElem?_toArray, List.getElem?_cons_succ, List.getElem?_cons_zero] at k0 k1 k2 k3 k4 k5 k6 k7 k8 k9 k10 k11 b0 b1 b2 b3; go_simp) <;> (with_reducible rfl)
          try simp only [Act.put, List.setIfInBounds_toArray, List.set_cons_zero, List.set_cons_succ]
          refine wpAnyH_take (i := 19) (oi := ⟨some 86, _, _, _, _, _⟩) (v := ?_) rfl (by kernel_rfl) (by kernel_rfl) (by kernel_rfl) (fun _ _ _ h => h) (Or.inl ⟨by rfl, ?_⟩) (by assumption) ?_
          rotate_left 1
          · (intro w hSw; (try dsimp only at hSw); obtain ⟨hB, hC⟩ := hSw; have k0 := hB.cell 0; have k1 := hB.cell 1; have k2 := hB.cell 2; have k3 := hB.cell 3; have k4 := hB.cell 4; have k5 := hB.cell 5; have k6 := hB.cell 6; have k7 := hB.cell 7; have k8 := hB.cell 8; have k9 := hB.cell 9; have k10 := hB.cell 10; have k11 := hB.cell 11; have b0 := hC.cell 0; have b1 := hC.cell 1; have b2 := hC.cell 2; have b3 := hC.cell 3; clear hB hC; simp only [List.getElem?_toArray, List.getElem?_cons_succ, List.getElem?_cons_zero] at k0 k1 k2 k3 k4 k5 k6 k7 k8 k9 k10 k11 b0 b1 b2 b3; go_simp) <;> (with_reducible rfl)
          try simp only [Act.put, List.setIfInBounds_toArray, List.set_cons_zero, List.set_cons_succ]
          refine wpAnyH_take (i := 20) (oi := ⟨some 87, _, _, _, _, _⟩) (v := ?_) rfl (by kernel_rfl) (by kernel_rfl) (by kernel_rfl) (fun _ _ _ h => h) (Or.inl ⟨by rfl, ?_⟩) (by assumption) ?_
          rotate_left 1
          · (intro w hSw; (try dsimp only at hSw); obtain ⟨hB, hC⟩ := hSw; have k0 := hB.cell 0; have k1 := hB.cell 1; have k2 := hB.cell 2; have k3 := hB.cell 3; have k4 := hB.cell 4; have k5 := hB.cell 5; have k6 := hB.cell 6; have k7 := hB.cell 7; have k8 := hB.cell 8; have k9 := hB.cell 9; have k10 := hB.cell 10; have k11 := hB.cell 11; have b0 := hC.cell 0; have b1 := hC.cell 1; have b2 := hC.cell 2; have b3 := hC.cell 3; clear hB hC; simp only [List.getElem?_toArray, List.getElem?_cons_succ, List.getElem?_cons_zero] at k0 k1 k2 k3 k4 k5 k6 k7 k8 k9 k10 k11 b0 b1 b2 b3; go_simp) <;> (with_reducible rfl)
          try simp only [Act.put, List.setIfInBounds_toArray, List.set_cons_zero, List.set_cons_succ]
          refine wpAnyH_take (i := 21) (oi := ⟨some 88, _, _, _, _, _⟩) (v := ?_) rfl (by kernel_rfl) (by kernel_rfl) (by kernel_rfl) (fun _ _ _ h => h) (Or.inl ⟨by rfl, ?_⟩) (by assumption) ?_
          rotate_left 1
          · (intro w hSw; (try dsimp only at hSw); obtain ⟨hB, hC⟩ := hSw; have k0 := hB.cell 0; have k1 := hB.cell 1; have k2 := hB.cell 2; have k3 := hB.cell 3; have k4 := hB.cell 4; have k5 := hB.cell 5; have k6 := hB.cell 6; have k7 := hB.cell 7; have k8 := hB.cell 8; have k9 := hB.cell 9; have k10 := hB.cell 10; have k11 := hB.cell 11; have b0 := hC.cell 0; have b1 := hC.cell 1; have b2 := hC.cell 2; have b3 := hC.cell 3; clear hB hC; simp only [List.getElem?_toArray, List.getElem?_cons_succ, List.getElem?_cons_zero] at k0 k1 k2 k3 k4 k5 k6 k7 k8 k9 k10 k11 b0 b1 b2 b3; go_simp) <;> (with_reducible rfl)
          try simp only [Act.put, List.setIfInBounds_toArray, List.set_cons_zero, List.set_cons_succ]
          refine wpAnyH_ready (rs := [18]) (by kernel_rfl) (by simp) ?_
          refine AllReadyH.cons (o := ⟨some 85, _, _, _, _, _⟩) rfl (fun K hK => ?_) AllReadyH.nil
          go_simp
          go_at_call 19
          refine HIT.out.mono ?_
          clear HIT hHeld
          rintro e w5 ⟨rfl, hst, hf5⟩
          have HF5 : Hid (Fr (fun b => b = bm ∨ b = g) wr w5) := HF4.out.trans hf5
          have H5 := Lib.hid hst
          have HCO := Lib.hid (HCS.out _ (HBM.out _ HF5.out))
          clear hf5 hst
          refine hK.out _ _ ?_ (fun hHeld => ?_)
          · exact HSD.out _ HF5.out
          clear hK K
          try simp only [Act.put, List.setIfInBounds_toArray, List.set_cons_zero, List.set_cons_succ]
          refine wpAnyH_ready (rs := [22]) (by kernel_rfl) (by simp) ?_
          refine AllReadyH.cons (o := ⟨some 89, _, _, _, _, _⟩) rfl (fun K hK => ?_) AllReadyH.nil
          go_simp
          go_at_call 15
          refine HCO.out.mono ?_
          clear HCO hHeld
          rintro e w6 ⟨rfl, hf6⟩
          have HF6 : Hid (Fr (fun b => b = bm ∨ b = g) wr w6) := HF5.out.trans (hf6.mono fun _ _ e => e.elim)
          have H6 : Hid (∃ s', s' ≤ s + 1 ∧ Fl w6 B g bm s' rg (laN rg xs (k + 1)) (mN rg xs (k + 1))) := by
            obtain ⟨s', hs', f⟩ := H5.out
            exact ⟨s', hs', f.nofr hf6⟩
          clear hf6 H5
          refine hK.out _ _ ?_ (fun hHeld => ?_)
          · exact HSD.out _ HF6.out
          clear hK K
          try simp only [Act.put, List.setIfInBounds_toArray, List.set_cons_zero, List.set_cons_succ]
          refine wpAnyH_take (i := 23) (oi := ⟨some 90, _, _, _, _, _⟩) (v := ?_) rfl (by kernel_rfl) (by kernel_rfl) (by kernel_rfl) (fun _ _ _ h => h) (Or.inl ⟨by rfl, ?_⟩) (by assumption) ?_
          rotate_left 1
          · (intro w hSw; (try dsimp only at hSw); obtain ⟨hB, hC⟩ := hSw; have k0 := hB.cell 0; have k1 := hB.cell 1; have k2 := hB.cell 2; have k3 := hB.cell 3; have k4 := hB.cell 4; have k5 := hB.cell 5; have k6 := hB.cell 6; have k7 := hB.cell 7; have k8 := hB.cell 8; have k9 := hB.cell 9; have k10 := hB.cell 10; have k11 := hB.cell 11; have b0 := hC.cell 0; have b1 := hC.cell 1; have b2 := hC.cell 2; have b3 := hC.cell 3; clear hB hC; simp only [List.getElem?_toArray, List.getElem?_cons_succ, List.getElem?_cons_zero] at k0 k1 k2 k3 k4 k5 k6 k7 k8 k9 k10 k11 b0 b1 b2 b3; go_simp) <;> (with_reducible rfl)
          try simp only [Act.put, List.setIfInBounds_toArray, List.set_cons_zero, List.set_cons_succ]
          refine wpAnyH_take (i := 24) (oi := ⟨some 91, _, _, _, _, _⟩) (v := ?_) rfl (by kernel_rfl) (by kernel_rfl) (by kernel_rfl) (fun _ _ _ h => h) (Or.inl ⟨by rfl, ?_⟩) (by assumption) ?_
          rotate_left 1
          · (intro w hSw; (try dsimp only at hSw); obtain ⟨hB, hC⟩ := hSw; have k0 := hB.cell 0; have k1 := hB.cell 1; have k2 := hB.cell 2; have k3 := hB.cell 3; have k4 := hB.cell 4; have k5 := hB.cell 5; have k6 := hB.cell 6; have k7 := hB.cell 7; have k8 := hB.cell 8; have k9 := hB.cell 9; have k10 := hB.cell 10; have k11 := hB.cell 11; have b0 := hC.cell 0; have b1 := hC.cell 1; have b2 := hC.cell 2; have b3 := hC.cell 3; clear hB hC; simp only [List.getElem?_toArray, List.getElem?_cons_succ, List.getElem?_cons_zero] at k0 k1 k2 k3 k4 k5 k6 k7 k8 k9 k10 k11 b0 b1 b2 b3; go_simp) <;> (with_reducible rfl)
          try simp only [Act.put, List.setIfInBounds_toArray, List.set_cons_zero, List.set_cons_succ]
          refine wpAnyH_done (by kernel_rfl) ?_ _
          go_wp2_with fail
          go_roundw
          case rel =>
            refine ⟨k + 1, by omega, by go_num, ?_, HBM.out _ HF6.out⟩
            obtain ⟨s', hs', f⟩ := H6.out
            exact ⟨s', Nat.le_trans hs' (Nat.succ_le_succ HSL.out), f⟩
          case measure => simp [intOf]; omega
    · have i3 : (xs.length : Int) ≤ (n : Int) := by omega
      obtain rfl : n = xs.length := by omega
      obtain ⟨s, hs, fl⟩ := HFL.out
      have HL1 := Lib.hid (flast_any wr _ _ _ _ _ _ _ fl)
      have HL2 := Lib.hid (dlast_any wr rg A c xs (HR.out.nofr HFR.out) xs.length (Nat.le_refl _) HLL.out fun x hx => ⟨(HX.out x hx).1.nofr HFR.out, HMK.out x hx⟩)
      clear fl hs HFL
      go_wp2_with fail
      refine HL1.out.mono ?_
      rintro e _ ⟨rfl, rfl⟩
      clear HL1
      go_wp2_with fail
      refine HL2.out.mono ?_
      rintro e w4 ⟨rfl, hf4⟩
      have HF4 := Lib.hid (HFR.out.trans hf4)
      clear HL2 hf4
      go_wp2_with fail
      go_ret
      exact ⟨rfl, HF4.out⟩

theorem paramsOk : ∀ t ∈ Try.f3.params.toList, Try.prog.readableRec t = true ∧ t < Try.prog.types.size := fun t ht => by
  have h := List.all_eq_true.1 (show (Try.f3.params.toList.all fun t => Try.prog.readableRec t && decide (t < Try.prog.types.size)) = true by kernel_rfl) t ht
  simpa using h

set_option maxRecDepth 100000 in
theorem lifted (os : Os) (started : os.Started) (H : Type) (enc : TypeId × Value → H) :
    ReturnsInHanded {} Try.checked os 3 .any (Rows.filterItemsSpec.pre6 enc Try.prog Try.f3 Rows.filterItemsRow.domain false) (Rows.filterItemsSpec.post enc Try.prog Try.f3 false true false false) := by
  refine returnsInHanded_of_change (C := Try.checked) own started (by kernel_rfl) Try.func3
    (ChangeSpec.witness6 (enc := enc) (C := Try.checked) false ⟨#[], #[.int .i64 0, .slice none 0 0], []⟩ 8 (by kernel_rfl) (by kernel_rfl) (by kernel_rfl) (by kernel_rfl)) ?_
  intro W base args ds gs before hval0 hW _ _
  have hval : ∀ (j : Nat) t v, Try.f3.params[j]? = some t → args[j]? = some v → Value.okWide Try.prog W .any base t v := hval0
  have hW' := hW
  obtain ⟨p, q, hA0, hV, rfl, _, _⟩ := hW
  have hA : DataW.TrodAll enc Try.prog W 0 (fun _ => true) true Try.f3.params.toList args.toList ds p := hA0
  rw [Try.params3] at hA hval
  obtain ⟨v0, vs0, d0, ds0, p0, q0, hargs, rfl, rfl, h0, r0⟩ := trodAll_cons hA
  obtain ⟨v1, vs1, d1, ds1, p1, q1, rfl, rfl, rfl, h1, r1⟩ := trodAll_cons r0
  obtain ⟨rfl, rfl, rfl⟩ := trodAll_nil r1
  obtain rfl : args = #[v0, v1] := by cases args; simp_all
  obtain ⟨rfl, rfl⟩ := trodVars_none hV
  obtain ⟨r, rfl, rfl, rfl, wr⟩ := open_int Try.underlying3 (hval 0 _ v0 rfl rfl) h0
  obtain ⟨A, c, l, rfl, hr, hx, hn, hm⟩ := open_items (hval 1 _ v1 rfl rfl) h1
  have walk := walk W r A c l hr hx hn hm
  clear hA0 hval0
  refine walk.mono fun e W' ⟨he, hf⟩ => ?_
  subst he
  exact ⟨_, rfl, law_post laidOut paramsOk rfl rfl Try.underlying4 hW' rfl rfl rfl hf⟩

theorem said : Rows.FilterItemsSaid :=
  OpenClaim.holds_of_wide 3 Try.f3 rfl rfl rfl rfl rfl rfl rfl ⟨rfl, rfl, rfl, rfl, rfl⟩ rfl rfl rfl rfl rfl (by kernel_rfl) Try.func3 (by kernel_rfl)
    (of_decide_eq_true (by kernel_rfl)) (by unfold Func.isWrapper; first | (rw [if_pos (by decide +kernel)]; kernel_rfl) | (rw [if_neg (by decide +kernel)]; exact ⟨rfl, rfl⟩))
    (fun os started H enc _ => lifted os started H enc)
end Go.Proofs.Ythdbpbcllhgeoaa.filterItems
