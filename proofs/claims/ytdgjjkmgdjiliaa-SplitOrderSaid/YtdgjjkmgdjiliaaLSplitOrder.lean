/- SplitOrder is true: over all regions, an order of the global log that counts has as many pieces as homes, all of its place. No condition. -/
import Derived.Test.YtdgjjkmgdjiliaaLawp
import Derived.Test.YtdgjjkmgdjiliaaSpk15
import Derived.Test.YtdgjjkmgdjiliaaGr15
import Derived.Test.YtdgjjkmgdjiliaaGoP
import Derived.Laws.OwnMore
namespace Go.Proofs.Ytdgjjkmgdjiliaa.splitOrder
open Go.ChangeShapes Go.WideShapes Go.ChangeAt Go.RowKit Go.Maps

/-- is a place among those of the first n pieces? -/
def inPre (ps : List Pc) (n j : Nat) : Nat := if (ps.take n).any (fun p => p.1 == j) then 1 else 0
theorem inPre_next {ps : List Pc} (hu : ps.Pairwise fun a b => a.1 < b.1) {n : Nat} {p : Pc} (hp : ps[n]? = some p) (j : Nat) : inPre ps (n + 1) j = if j = p.1 then inPre ps n p.1 + 1 else inPre ps n j := by
  have hno : (ps.take n).any (fun q => q.1 == p.1) = false := by
    rw [List.any_eq_false]
    intro q hq
    obtain ⟨i, hi⟩ := List.getElem?_of_mem hq
    have hil := (List.getElem?_eq_some_iff.1 hi).1
    rw [List.length_take] at hil
    rw [List.getElem?_take, if_pos (by omega)] at hi
    have hl := (List.getElem?_eq_some_iff.1 hp).1
    have h := List.pairwise_iff_getElem.1 hu i n (by omega) hl (by omega)
    rw [List.getElem?_eq_getElem (by omega)] at hi hp
    injection hi with hi
    injection hp with hp
    rw [hi, hp] at h
    simp
    omega
  unfold inPre
  rw [List.take_add_one, hp]
  by_cases e : j = p.1
  · subst e
    rw [if_pos rfl, hno]
    simp
  · rw [if_neg e]
    have e2 : (p.1 == j) = false := beq_eq_false_iff_ne.2 (Ne.symm e)
    rw [show (some p).toList = [p] from rfl, List.any_append, show ([p].any fun q => q.1 == j) = false by simp only [List.any_cons, List.any_nil, e2, Bool.or_false], Bool.or_false]
/-- how many of the first r regions have a piece of a place. -/
def cntC (xs : List Od) : Nat → Nat → Nat
  | 0, _ => 0
  | r + 1, j => cntC xs r j + inPre (pcs (r : Int) xs xs.length) (pcs (r : Int) xs xs.length).length j
theorem inPre_le (ps : List Pc) (n j : Nat) : inPre ps n j ≤ 1 := by unfold inPre; split <;> omega
theorem cntC_le (xs : List Od) (r j : Nat) : cntC xs r j ≤ r := by
  induction r with
  | zero => exact Nat.le_refl _
  | succ r ih => have := inPre_le (pcs (r : Int) xs xs.length) (pcs (r : Int) xs xs.length).length j; show _ + _ ≤ _; omega
theorem pcs_of {rg : Int} {xs : List Od} {j : Nat} {o : Od} (ho : xs[j]? = some o) (ht : takeB rg xs j o = true) : ∀ n, j < n → (j, o) ∈ pcs rg xs n
  | 0, h => by omega
  | n + 1, h => by
    rw [pcs, List.mem_append]
    by_cases e : j = n
    · subst e
      right
      rw [ho]
      simp [ht]
    · exact .inl (pcs_of ho ht n (by omega))
theorem inPre_all {rg : Int} {xs : List Od} {j : Nat} {o : Od} (ho : xs[j]? = some o) : inPre (pcs rg xs xs.length) (pcs rg xs xs.length).length j = if takeB rg xs j o then 1 else 0 := by
  unfold inPre
  rw [List.take_length]
  cases ht : takeB rg xs j o with
  | true =>
    have h := pcs_of ho ht xs.length (List.getElem?_eq_some_iff.1 ho).1
    rw [if_pos (List.any_eq_true.2 ⟨_, h, by simp⟩)]
    rfl
  | false =>
    rw [if_neg]
    · rfl
    · intro hn
      obtain ⟨p, hp, he⟩ := List.any_eq_true.1 hn
      have he : p.1 = j := by simpa using he
      have h1 := (pcs_mem hp).2
      have h2 := pcs_take hp
      rw [he, ho] at h1
      injection h1 with h1
      rw [he, ← h1, ht] at h2
      cases h2
/-- how many of the first r regions are homes of an order. -/
def homC (o : Od) : Nat → Nat
  | 0 => 0
  | r + 1 => homC o r + (if (homesOf o.marks).contains (r : Int) then 1 else 0)
theorem homC_le (o : Od) (r : Nat) : homC o r ≤ r := by
  induction r with
  | zero => exact Nat.le_refl _
  | succ r ih => show _ + _ ≤ _; split <;> omega
theorem cntC_hom {xs : List Od} {j : Nat} {o : Od} (ho : xs[j]? = some o) (r : Nat) : cntC xs r j = if gAt xs j (tgOf o) || singleOf o then 0 else homC o r := by
  induction r with
  | zero => split <;> rfl
  | succ r ih =>
    show cntC xs r j + _ = _
    rw [ih, inPre_all ho]
    unfold takeB
    rw [firstAt_g]
    cases gAt xs j (tgOf o) <;> cases singleOf o <;> simp [homC]
/-- a row of counters. -/
structure CntAt (w : World) (g n : Nat) (f : Nat → Nat) : Prop where
  bk : ∃ cs, Bk w g 3 cs ∧ n ≤ cs.size ∧ ∀ j, j < n → cs[j]? = some (.int .i64 (f j : Int))
theorem CntAt.fr {w w' : World} {g n : Nat} {f : Nat → Nat} {C : Nat → Prop} (h : CntAt w g n f) (hf : Fr C w w') (hn : ¬ C g) : CntAt w' g n f := by
  obtain ⟨cs, h1, h2⟩ := h.bk
  exact ⟨cs, h1.fr hf hn, h2⟩
theorem CntAt.cell {w : World} {g n : Nat} {f : Nat → Nat} (h : CntAt w g n f) {j : Nat} (hj : j < n) : w.cell? ⟨g, j, none⟩ = some (.int .i64 (f j : Int)) ∧ w.frozen? ⟨g, j, none⟩ = false := by
  obtain ⟨cs, h1, h2, h3⟩ := h.bk
  exact ⟨by rw [h1.cell]; exact h3 j hj, h1.free j⟩
theorem CntAt.put {w : World} {g n : Nat} {f : Nat → Nat} (h : CntAt w g n f) (j v : Nat) : CntAt (w.setCell ⟨g, j, none⟩ (.int .i64 (v : Int))) g n fun i => if i = j then v else f i := by
  obtain ⟨cs, h1, h2, h3⟩ := h.bk
  refine ⟨_, h1.put j _, by simpa using h2, fun i hi => ?_⟩
  by_cases e : i = j
  · subst e
    rw [if_pos rfl]
    simp [show i < cs.size by omega]
  · rw [if_neg e, ← h3 i hi]
    simp [Ne.symm e]
theorem CntAt.congr {w : World} {g n : Nat} {f f' : Nat → Nat} (h : CntAt w g n f) (e : ∀ j, f j = f' j) : CntAt w g n f' := by
  rw [← funext e]; exact h
theorem intInfo : (Try.prog.info? 3).map (fun i => (i.zero, i.size, i.bytes)) = some (some (.int .i64 0), 1, 8) := by kernel_rfl
theorem made_at (n j : Nat) (h : j < n) : (madeCells (Value.int .i64 0).cells n).toList[j]? = some (.int .i64 0) := by
  unfold madeCells
  simp [h, Value.cells, Nat.mod_one]
theorem CntAt.made {w : World} {g n : Nat} (h : w.ownsRow 0 3 1 (.slice (some ⟨g, 0, none⟩) n n) n (madeCells (Value.int .i64 0).cells (n * 1)).toList) : CntAt w g n fun _ => 0 := by
  rcases h.2 with ⟨hv, _⟩ | ⟨g', cap, cur, hv, _, hh, hle, _, hs, ht⟩
  · cases hv
  · injection hv with h1 _ h2
    injection h1 with h1
    injection h1 with h1
    subst h1 h2
    refine ⟨cur, hh, by omega, fun j hj => ?_⟩
    have h := made_at (n * 1) j (by omega)
    rw [← ht, List.getElem?_take, if_pos (by omega)] at h
    simpa using h
/-- an order lies at an address. -/
structure OCells (w : World) (b q : Nat) (o : Od) : Prop where
  c0 : w.cell? ⟨b, q, none⟩ = some (.int .i64 o.node)
  c1 : w.cell? ⟨b, q + 1, none⟩ = some (.int .u64 (o.epoch : Int))
  c2 : w.cell? ⟨b, q + 2, none⟩ = some (.int .u64 (o.seq : Int))
  c3 : w.cell? ⟨b, q + 3, none⟩ = some (.int .i64 o.tr)
  c4 : w.cell? ⟨b, q + 4, none⟩ = some (.int .i64 o.t.kind)
  c5 : w.cell? ⟨b, q + 5, none⟩ = some (.slice o.t.ra o.t.reads.length o.t.rc)
  c6 : w.cell? ⟨b, q + 6, none⟩ = some (.slice o.t.wa o.t.writes.length o.t.wc)
  c7 : w.cell? ⟨b, q + 7, none⟩ = some (.slice o.t.oa o.t.ops.length o.t.oc)
  c8 : w.cell? ⟨b, q + 8, none⟩ = some (.int .i64 o.t.to)
  c9 : w.cell? ⟨b, q + 9, none⟩ = some (.slice o.ma o.marks.length o.mc)
theorem Rd.ocells {w : World} {A : Option Addr} {xs : List Od} (h : Rd w A (odsc xs)) {n : Nat} {o : Od} (hp : xs[n]? = some o) : ∃ b q, A = some ⟨b, q, none⟩ ∧ OCells w b (q + n * 10) o := by
  obtain ⟨b, q, e, hc⟩ := h.ord hp
  exact ⟨b, q, e, hc 0 _ rfl, hc 1 _ rfl, hc 2 _ rfl, hc 3 _ rfl, hc 4 _ rfl, hc 5 _ rfl, hc 6 _ rfl, hc 7 _ rfl, hc 8 _ rfl, hc 9 _ rfl⟩
/-- runs as the law writes them down. -/
def runsM (m : Tg → Bool) : Tg → Option Value := fun t => if m t then some (.bool true) else none
theorem runsM_some (m : Tg → Bool) (t : Tg) : (runsM m t).isSome = m t := by unfold runsM; cases m t <;> rfl
theorem runsM_get (m : Tg → Bool) (t : Tg) : (runsM m t).getD (.bool false) = .bool (m t) := by unfold runsM; cases m t <;> rfl
theorem runsM_put (m : Tg → Bool) (t : Tg) : updG (runsM m) t (some (.bool true)) = runsM (addT m t) := by
  funext y
  unfold updG runsM addT
  by_cases e : y = t
  · simp [e]
  · simp [e]
theorem zeroBool (w : World) : (zeroValue 4).run Try.prog w = .ok (.bool false) w := by kernel_rfl

set_option maxRecDepth 100000 in
set_option maxHeartbeats 2000000 in
theorem walk (w : World) (A : Option Addr) (c : Nat) (xs : List Od) (hr : Rd w A (odsc xs)) (hx : ∀ o ∈ xs, OdIn w o ∧ TgOk (tgOf o)) (hm : xs.length ≤ 9223372036854775807) :
    Calls Try.prog 11 #[.slice A xs.length c] w fun e w' => e = .returned (.bool true) ∧ Fr NoBlk w w' := by
  have HR := Lib.hid hr
  have HX := Lib.hid hx
  clear hr hx
  go_enter Try.func11, Try.ntmps11
  go_wp2_with fail
  refine (speaks15_any _).mono ?_
  rintro e w1 ⟨rfl, hf1⟩
  have HF1 := Lib.hid hf1
  clear hf1
  have HG := Lib.hid (great15_any w1 A c xs (HR.out.nofr HF1.out) (fun i hi => (HX.out i hi).1.nofr HF1.out) hm)
  go_wp2_with fail
  refine HG.out.mono ?_
  clear HG
  rintro e w2 ⟨⟨bb, rfl, hgr⟩, hf2⟩
  have HF2 := Lib.hid (HF1.out.trans hf2)
  clear hf2 HF1
  cases bb with
  | true =>
    clear hgr
    go_wp2_with fail
    go_ret
    exact ⟨rfl, HF2.out⟩
  | false =>
  have HLL := Lib.hid (hgr.out rfl).1
  have HSM := Lib.hid (hgr.out rfl).2
  have hl30 : xs.length ≤ 30 := HLL.out
  clear hgr
  have HLG : Hid (∀ W, Fr NoBlk w W → LogIn W A xs) := fun W hW => (LogIn.of HR.out HX.out HSM.out HLL.out).nofr hW
  obtain ⟨i0, hi, hz0, hz1, hz2⟩ := info_partsR intInfo
  obtain ⟨w3, hmk, hown, hg3⟩ := run_make_full (P := Try.prog) w2 0 72 3 i0 _ 1 Try.underlying72 hi hz0 hz1 .i64 .i64 xs.length (by rw [hz2]; omega) (by unfold maxLen; omega) (Nat.zero_le _)
  obtain ⟨gq, hgq⟩ : ∃ g, g = w2.heap.size := ⟨_, rfl⟩
  obtain ⟨bR, hbR⟩ : ∃ bR, bR = w3.heap.size := ⟨_, rfl⟩
  obtain ⟨w4, hw4⟩ : ∃ w4, w4 = w3.alloc (.map #[] 0) := ⟨_, rfl⟩
  have hf23 : Fr NoBlk w2 w3 := (Fr.ofGrown hg3).mono fun _ _ e => by cases e
  have hf34 : Fr NoBlk w3 w4 := by rw [hw4]; exact (Fr.refl _ _).alloc _
  rw [← hgq] at hown hmk
  have hc3 : CntAt w3 gq xs.length fun _ => 0 := CntAt.made hown
  have HC4 : Hid (CntAt w4 gq xs.length fun j => cntC xs 0 j) := hc3.fr hf34 fun e => e
  have HK4 : Hid (Kg Try.prog 31 tgl TgOk w4 bR 0 (runsM (gAt xs 0))) := by
    show Kg _ _ _ _ _ _ _ _
    rw [hw4, hbR]
    exact Kg.new w3
  have HGE : Hid (w.heap.size ≤ gq ∧ gq < bR ∧ bR < w4.heap.size) := by
    have h1 := HF2.out.size
    obtain ⟨cs, hb, _⟩ := hc3.bk
    have h2 := hb.lt
    have h3 : w4.heap.size = w3.heap.size + 1 := by rw [hw4]; simp
    exact ⟨by omega, by omega, by omega⟩
  have HF4 := Lib.hid ((HF2.out.trans hf23).trans hf34)
  have HW4 := Lib.hid hw4
  have HBR := Lib.hid hbR
  have HBM : Hid (∀ W, Fr (fun b => b = gq) w4 W → Fr NoBlk w W) := fun W hW => HF4.out.step hW fun i hi e => by have := HGE.out.1; omega
  have hmm := @run_makeMap Try.prog
  clear hown hg3 hf23 hf34 hc3 hgq hbR hw4 hi hz0 hz1 hz2 HF2
  go_wp2_with fail
  rw [← HW4.out, ← HBR.out]
  clear hmm hmk HW4 HBR
  go_loopw [5] (fun z wr => ∃ r : Nat, r ≤ 3 ∧ z = .int .i64 r ∧ Hid (CntAt wr gq xs.length fun j => cntC xs r j) ∧ Hid (Fr (fun b => b = gq) w4 wr)) (fun z _ => 3 - (intOf z).toNat)
  case atStart => exact ⟨0, by omega, rfl, HC4, Fr.refl _ _⟩
  case round =>
    clear HC4
    obtain ⟨r, hr3, rfl, HCN, HFW⟩ := hrel
    by_cases hlt : r < 3
    · obtain ⟨ps, hps⟩ : ∃ ps, ps = pcs (r : Int) xs xs.length := ⟨_, rfl⟩
      obtain ⟨np, hnp⟩ : ∃ n, n = ps.length := ⟨_, rfl⟩
      have hn30 : np ≤ 30 := by rw [hnp, hps]; exact Nat.le_trans (pcs_len (r : Int) xs _) hl30
      have HUP : Hid (ps.Pairwise fun a b => a.1 < b.1) := by show List.Pairwise _ _; rw [hps]; exact pcs_up
      have HPC : Hid (∀ p ∈ ps, p ∈ pcs (r : Int) xs xs.length) := fun p hp => by rw [← hps]; exact hp
      have HD := Lib.hid (spieces_any wr A c xs (r : Int) (HLG.out _ (HBM.out _ HFW.out)) HSM.out)
      rw [← hps, ← hnp] at HD
      have HNP := Lib.hid hnp
      have HP := Lib.hid hps
      have i1 : (r : Int) < 3 := by omega
      clear hps hnp
      go_wp2_with fail
      refine HD.out.mono ?_
      clear HD
      rintro e w5 ⟨A5, k5, its, rfl, ho5, hits, hf5⟩
      have HR5 := Lib.hid (Rd.of_ownW ho5)
      have HITS := Lib.hid hits
      have HF5 : Hid (Fr (fun b => b = gq) w4 w5) := HFW.out.trans (hf5.mono fun _ _ e => e.elim)
      have HGI : Hid (gq < wr.heap.size) := by show _ < _; have := HFW.out.size; have := HGE.out; omega
      have HC5 : Hid (CntAt w5 gq xs.length fun j => cntC xs r j + inPre ps 0 j) := (HCN.out.fr hf5 fun e => e).congr fun j => by simp [inPre]
      have HIB : Hid (∀ W, Fr (fun b => b = gq) w5 W → Rd W A5 (imsc its) ∧ ItsOf W wr.heap.size its ps) := fun W hW => by
        have hb : ∀ (cs : Array Value), Bk w5 gq 3 cs → ∃ V, Fr (fun k => k = gq) V W := fun _ _ => ⟨_, hW⟩
        obtain ⟨cs, hb5, _⟩ := HC5.out.bk
        refine ⟨HR5.out.fr' hW fun hp k hk e => ?_, HITS.out.1, fun j i p hi hp => (HITS.out.2 j i p hi hp).frV hW hb5 (by decide) (by decide) (by decide) (by decide)⟩
        have h := own_apart ho5 hb5 (by decide)
        rw [e] at hk
        obtain ⟨a, ha, hb⟩ := hk
        exact h (by rw [ha]; show some a.block = _; rw [hb])
      clear ho5 hits hf5 HCN HFW HR5 HITS
      go_wp2_with fail
      go_loopw [6, 29] (fun lz z wr => ∃ n : Nat, n ≤ np ∧ z = .int .i64 n ∧ lz = .int .i64 (laOf ps n) ∧ Hid (CntAt wr gq xs.length fun j => cntC xs r j + inPre ps n j) ∧ Hid (Fr (fun b => b = gq) w5 wr)) (fun _ z _ => np - (intOf z).toNat)
      case atStart => exact ⟨0, by omega, rfl, rfl, HC5, Fr.refl _ _⟩
      case round =>
        clear HC5
        obtain ⟨n, hn2, rfl, rfl, HCN, HFN⟩ := hrel
        by_cases hlt2 : n < np
        · obtain ⟨p, hp⟩ : ∃ p, ps[n]? = some p := ⟨_, List.getElem?_eq_getElem (by have := HNP.out; omega)⟩
          obtain ⟨x, hx⟩ : ∃ x, its[n]? = some x := ⟨_, List.getElem?_eq_getElem (by have := (HIB.out _ (Fr.refl _ _)).2.1; have := HNP.out; omega)⟩
          obtain ⟨hrd, hits⟩ := HIB.out _ HFN.out
          have hxp := hits.2 n x p hx hp
          obtain ⟨xk, xi, xo⟩ := x
          obtain rfl : xk = 2 := hxp.kind
          obtain rfl : xi = (p.1 : Int) := hxp.index
          have hpm := HPC.out p (List.mem_of_getElem? hp)
          obtain ⟨hpl, hpo⟩ := pcs_mem hpm
          obtain ⟨pb, po, rfl, hc⟩ := hrd.icells hx
          obtain ⟨c0, c1, c2, c3, c4, c5, c6, c7, c8, c9, c10, c11⟩ := hc
          dsimp only at c0 c1 c2 c3 c4 c5 c6 c7 c8 c9 c10 c11
          have hfw : Fr NoBlk w wr := HBM.out _ (HF5.out.trans HFN.out)
          obtain ⟨lb, lq, hA, hoc⟩ := Rd.ocells (HR.out.nofr hfw) hpo
          obtain ⟨q, hq⟩ : ∃ q, q = wr.heap.size := ⟨_, rfl⟩
          obtain ⟨w8, hw8⟩ : ∃ w8, w8 = wr.alloc (.cells #[.int .i64 2, .int .i64 (p.1 : Int), .int .i64 xo.node, .int .u64 (xo.epoch : Int), .int .u64 (xo.seq : Int), .int .i64 xo.tr, .int .i64 xo.t.kind, .slice xo.t.ra xo.t.reads.length xo.t.rc, .slice xo.t.wa xo.t.writes.length xo.t.wc, .slice xo.t.oa xo.t.ops.length xo.t.oc, .int .i64 xo.t.to, .slice xo.ma xo.marks.length xo.mc] 40) := ⟨_, rfl⟩
          have hf8 : Fr NoBlk wr w8 := by rw [hw8]; exact (Fr.refl _ _).alloc _
          have hbp : Bk w8 q 40 #[.int .i64 2, .int .i64 (p.1 : Int), .int .i64 xo.node, .int .u64 (xo.epoch : Int), .int .u64 (xo.seq : Int), .int .i64 xo.tr, .int .i64 xo.t.kind, .slice xo.t.ra xo.t.reads.length xo.t.rc, .slice xo.t.wa xo.t.writes.length xo.t.wc, .slice xo.t.oa xo.t.ops.length xo.t.oc, .int .i64 xo.t.to, .slice xo.ma xo.marks.length xo.mc] := by rw [hw8, hq]; exact Bk.new _ _ _
          have HSD : Hid (∀ W, Fr NoBlk w8 W → Bk W q 40 #[.int .i64 2, .int .i64 (p.1 : Int), .int .i64 xo.node, .int .u64 (xo.epoch : Int), .int .u64 (xo.seq : Int), .int .i64 xo.tr, .int .i64 xo.t.kind, .slice xo.t.ra xo.t.reads.length xo.t.rc, .slice xo.t.wa xo.t.writes.length xo.t.wc, .slice xo.t.oa xo.t.ops.length xo.t.oc, .int .i64 xo.t.to, .slice xo.ma xo.marks.length xo.mc] ∧ OCells W lb (lq + p.1 * 10) p.2) := fun W hW => by
            refine ⟨hbp.fr hW fun e => e, ?_⟩
            obtain ⟨lb', lq', hA', hoc'⟩ := Rd.ocells (HR.out.nofr (hfw.trans (hf8.trans hW))) hpo
            rw [hA] at hA'
            injection hA' with hA'
            injection hA' with e1 e2
            subst e1 e2
            exact hoc'
          have hos := HSM.out _ (List.mem_of_getElem? hpo)
          have HSM2 : Hid (Calls Try.prog 34 #[odv xo, odv p.2] w8.drew fun e w' => e = .returned (.bool true) ∧ Fr NoBlk w8.drew w') := by
            have h := osame_any w8.drew xo p.2 (hxp.inn.nofr (hf8.trans (Fr.refl _ _).drew)) (((HX.out _ (List.mem_of_getElem? hpo)).1).nofr (hfw.trans (hf8.trans (Fr.refl _ _).drew))) (hxp.like.small hos) hos
            rw [(orderSame_iff xo p.2).2 hxp.like] at h
            exact h
          have HHI : Hid (∀ W, Fr NoBlk w8 W → Calls Try.prog 28 #[odv xo, .int .i64 (r : Int)] W fun e w' => e = .returned (.bool true) ∧ Fr NoBlk W w') := fun W hW => by
            have h := dhomein_any W xo (hxp.inn.nofr (hf8.trans hW)) (by have h1 := (hxp.like.small hos).m; have e : (Im.mk 2 (p.1 : Int) xo).o = xo := rfl; rw [e] at h1; omega) (r : Int)
            have ht := pcs_take hpm
            unfold takeB at ht
            simp only [Bool.and_eq_true] at ht
            have e : xo.marks = p.2.marks := hxp.like.marks
            rw [e, ht.2] at h
            exact h
          have HLT := Lib.hid (laOf_lt HUP.out hp)
          have HNX : Hid (∀ j, (if j = p.1 then cntC xs r p.1 + inPre ps n p.1 + 1 else cntC xs r j + inPre ps n j) = cntC xs r j + inPre ps (n + 1) j) := fun j => by
            rw [inPre_next HUP.out hp j]
            by_cases e : j = p.1
            · subst e; rw [if_pos rfl, if_pos rfl]; omega
            · rw [if_neg e, if_neg e]
          have HLN : Hid (laOf ps (n + 1) = (p.1 : Int)) := laOf_succ hp
          obtain ⟨la, hla⟩ : ∃ la, la = laOf ps n := ⟨_, rfl⟩
          have l1 : la < (p.1 : Int) := by rw [hla]; exact HLT.out
          have l2 : (p.1 : Int) < (xs.length : Int) := by omega
          have l3 : (0 : Int) ≤ (p.1 : Int) := by omega
          have l4 : (0 : Int) ≤ (n : Int) := by omega
          have l5 : (n : Int) < (np : Int) := by omega
          rw [← hla]
          obtain ⟨fv, hfv⟩ : ∃ fv, fv = cntC xs r p.1 + inPre ps n p.1 := ⟨_, rfl⟩
          have hfv2 : fv ≤ 4 := by have := cntC_le xs r p.1; have := inPre_le ps n p.1; omega
          have HCN8 : Hid (CntAt w8 gq xs.length fun j => cntC xs r j + inPre ps n j) := HCN.out.fr hf8 fun e => e
          have HFN8 := Lib.hid (HFN.out.trans (hf8.mono fun _ _ e => e.elim))
          have HFV := Lib.hid hfv
          have HPL := Lib.hid hpl
          clear hx hp hrd hits hxp hpm hpl hpo hfw hoc hf8 hbp hos HLT hlt2 hla hfv HCN HFN
          unfold odv oda at HSM2 HHI
          rw [hA]
          have HAE := Lib.hid hA
          clear hA
          subst hw8 hq
          go_wp2_with fail
          obtain ⟨w8, hw8⟩ : ∃ w8, w8 = wr.alloc (.cells #[.int .i64 2, .int .i64 (p.1 : Int), .int .i64 xo.node, .int .u64 (xo.epoch : Int), .int .u64 (xo.seq : Int), .int .i64 xo.tr, .int .i64 xo.t.kind, .slice xo.t.ra xo.t.reads.length xo.t.rc, .slice xo.t.wa xo.t.writes.length xo.t.wc, .slice xo.t.oa xo.t.ops.length xo.t.oc, .int .i64 xo.t.to, .slice xo.ma xo.marks.length xo.mc] 40) := ⟨_, rfl⟩
          obtain ⟨q, hq⟩ : ∃ q, q = wr.heap.size := ⟨_, rfl⟩
          rw [← hw8] at HSD HSM2 HHI HCN8 HFN8 ⊢
          rw [← hq] at HSD ⊢
          clear hw8 hq
          have l6 : ¬ (p.1 : Int) ≤ la := by omega
          have l7 : ¬ xs.length ≤ p.1 := by omega
          refine wp_region_held_drew (S := fun w' => Bk w' q 40 #[.int .i64 2, .int .i64 (p.1 : Int), .int .i64 xo.node, .int .u64 (xo.epoch : Int), .int .u64 (xo.seq : Int), .int .i64 xo.tr, .int .i64 xo.t.kind, .slice xo.t.ra xo.t.reads.length xo.t.rc, .slice xo.t.wa xo.t.writes.length xo.t.wc, .slice xo.t.oa xo.t.ops.length xo.t.oc, .int .i64 xo.t.to, .slice xo.ma xo.marks.length xo.mc] ∧ OCells w' lb (lq + p.1 * 10) p.2) (by kernel_rfl) (HSD.out _ (Fr.refl _ _).drew) (fun hHeld => ?_)
          refine wpAnyH_take (i := 0) (oi := ⟨some 33, _, _, _, _, _⟩) (v := ?_) rfl (by kernel_rfl) (by kernel_rfl) (by kernel_rfl) (fun _ _ _ h => h) (Or.inl ⟨by rfl, ?_⟩) (by assumption) ?_
          rotate_left 1
          · (intro w hSw; (try dsimp only at hSw); have k0 := hSw.1.cell 0; have k1 := hSw.1.cell 1; have k2 := hSw.1.cell 2; have k3 := hSw.1.cell 3; have k4 := hSw.1.cell 4; have k5 := hSw.1.cell 5; have k6 := hSw.1.cell 6; have k7 := hSw.1.cell 7; have k8 := hSw.1.cell 8; have k9 := hSw.1.cell 9; have k10 := hSw.1.cell 10; have k11 := hSw.1.cell 11; obtain ⟨q0, q1, q2, q3, q4, q5, q6, q7, q8, q9⟩ := hSw.2; clear hSw; simp only [List.getElem?_toArray, List.getElem?_cons_succ, List.getElem?_cons_zero] at k0 k1 k2 k3 k4 k5 k6 k7 k8 k9 k10 k11; go_simp) <;> (with_reducible rfl)
          try simp only [Act.put, List.setIfInBounds_toArray, List.set_cons_zero, List.set_cons_succ]
          refine wpAnyH_take (i := 1) (oi := ⟨some 34, _, _, _, _, _⟩) (v := ?_) rfl (by kernel_rfl) (by kernel_rfl) (by kernel_rfl) (fun _ _ _ h => h) (Or.inl ⟨by rfl, ?_⟩) (by assumption) ?_
          rotate_left 1
          · (intro w hSw; (try dsimp only at hSw); have k0 := hSw.1.cell 0; have k1 := hSw.1.cell 1; have k2 := hSw.1.cell 2; have k3 := hSw.1.cell 3; have k4 := hSw.1.cell 4; have k5 := hSw.1.cell 5; have k6 := hSw.1.cell 6; have k7 := hSw.1.cell 7; have k8 := hSw.1.cell 8; have k9 := hSw.1.cell 9; have k10 := hSw.1.cell 10; have k11 := hSw.1.cell 11; obtain ⟨q0, q1, q2, q3, q4, q5, q6, q7, q8, q9⟩ := hSw.2; clear hSw; simp only [List.getElem?_toArray, List.getElem?_cons_succ, List.getElem?_cons_zero] at k0 k1 k2 k3 k4 k5 k6 k7 k8 k9 k10 k11; go_simp) <;> (with_reducible rfl)
          try simp only [Act.put, List.setIfInBounds_toArray, List.set_cons_zero, List.set_cons_succ]
          refine wpAnyH_take (i := 2) (oi := ⟨some 35, _, _, _, _, _⟩) (v := ?_) rfl (by kernel_rfl) (by kernel_rfl) (by kernel_rfl) (fun _ _ _ h => h) (Or.inl ⟨by rfl, ?_⟩) (by assumption) ?_
          rotate_left 1
          · (intro w hSw; (try dsimp only at hSw); have k0 := hSw.1.cell 0; have k1 := hSw.1.cell 1; have k2 := hSw.1.cell 2; have k3 := hSw.1.cell 3; have k4 := hSw.1.cell 4; have k5 := hSw.1.cell 5; have k6 := hSw.1.cell 6; have k7 := hSw.1.cell 7; have k8 := hSw.1.cell 8; have k9 := hSw.1.cell 9; have k10 := hSw.1.cell 10; have k11 := hSw.1.cell 11; obtain ⟨q0, q1, q2, q3, q4, q5, q6, q7, q8, q9⟩ := hSw.2; clear hSw; simp only [List.getElem?_toArray, List.getElem?_cons_succ, List.getElem?_cons_zero] at k0 k1 k2 k3 k4 k5 k6 k7 k8 k9 k10 k11; go_simp) <;> (with_reducible rfl)
          try simp only [Act.put, List.setIfInBounds_toArray, List.set_cons_zero, List.set_cons_succ]
          refine wpAnyH_take (i := 3) (oi := ⟨some 36, _, _, _, _, _⟩) (v := ?_) rfl (by kernel_rfl) (by kernel_rfl) (by kernel_rfl) (fun _ _ _ h => h) (Or.inl ⟨by rfl, ?_⟩) (by assumption) ?_
          rotate_left 1
          · (intro w hSw; (try dsimp only at hSw); have k0 := hSw.1.cell 0; have k1 := hSw.1.cell 1; have k2 := hSw.1.cell 2; have k3 := hSw.1.cell 3; have k4 := hSw.1.cell 4; have k5 := hSw.1.cell 5; have k6 := hSw.1.cell 6; have k7 := hSw.1.cell 7; have k8 := hSw.1.cell 8; have k9 := hSw.1.cell 9; have k10 := hSw.1.cell 10; have k11 := hSw.1.cell 11; obtain ⟨q0, q1, q2, q3, q4, q5, q6, q7, q8, q9⟩ := hSw.2; clear hSw; simp only [List.getElem?_toArray, List.getElem?_cons_succ, List.getElem?_cons_zero] at k0 k1 k2 k3 k4 k5 k6 k7 k8 k9 k10 k11; go_simp) <;> (with_reducible rfl)
          try simp only [Act.put, List.setIfInBounds_toArray, List.set_cons_zero, List.set_cons_succ]
          refine wpAnyH_take (i := 4) (oi := ⟨some 37, _, _, _, _, _⟩) (v := ?_) rfl (by kernel_rfl) (by kernel_rfl) (by kernel_rfl) (fun _ _ _ h => h) (Or.inl ⟨by rfl, ?_⟩) (by assumption) ?_
          rotate_left 1
          · (intro w hSw; (try dsimp only at hSw); have k0 := hSw.1.cell 0; have k1 := hSw.1.cell 1; have k2 := hSw.1.cell 2; have k3 := hSw.1.cell 3; have k4 := hSw.1.cell 4; have k5 := hSw.1.cell 5; have k6 := hSw.1.cell 6; have k7 := hSw.1.cell 7; have k8 := hSw.1.cell 8; have k9 := hSw.1.cell 9; have k10 := hSw.1.cell 10; have k11 := hSw.1.cell 11; obtain ⟨q0, q1, q2, q3, q4, q5, q6, q7, q8, q9⟩ := hSw.2; clear hSw; simp only [List.getElem?_toArray, List.getElem?_cons_succ, List.getElem?_cons_zero] at k0 k1 k2 k3 k4 k5 k6 k7 k8 k9 k10 k11; go_simp) <;> (with_reducible rfl)
          try simp only [Act.put, List.setIfInBounds_toArray, List.set_cons_zero, List.set_cons_succ]
          refine wpAnyH_take (i := 5) (oi := ⟨some 38, _, _, _, _, _⟩) (v := ?_) rfl (by kernel_rfl) (by kernel_rfl) (by kernel_rfl) (fun _ _ _ h => h) (Or.inl ⟨by rfl, ?_⟩) (by assumption) ?_
          rotate_left 1
          · (intro w hSw; (try dsimp only at hSw); have k0 := hSw.1.cell 0; have k1 := hSw.1.cell 1; have k2 := hSw.1.cell 2; have k3 := hSw.1.cell 3; have k4 := hSw.1.cell 4; have k5 := hSw.1.cell 5; have k6 := hSw.1.cell 6; have k7 := hSw.1.cell 7; have k8 := hSw.1.cell 8; have k9 := hSw.1.cell 9; have k10 := hSw.1.cell 10; have k11 := hSw.1.cell 11; obtain ⟨q0, q1, q2, q3, q4, q5, q6, q7, q8, q9⟩ := hSw.2; clear hSw; simp only [List.getElem?_toArray, List.getElem?_cons_succ, List.getElem?_cons_zero] at k0 k1 k2 k3 k4 k5 k6 k7 k8 k9 k10 k11; go_simp) <;> (with_reducible rfl)
          try simp only [Act.put, List.setIfInBounds_toArray, List.set_cons_zero, List.set_cons_succ]
          refine wpAnyH_take (i := 6) (oi := ⟨some 39, _, _, _, _, _⟩) (v := ?_) rfl (by kernel_rfl) (by kernel_rfl) (by kernel_rfl) (fun _ _ _ h => h) (Or.inl ⟨by rfl, ?_⟩) (by assumption) ?_
          rotate_left 1
          · (intro w hSw; (try dsimp only at hSw); have k0 := hSw.1.cell 0; have k1 := hSw.1.cell 1; have k2 := hSw.1.cell 2; have k3 := hSw.1.cell 3; have k4 := hSw.1.cell 4; have k5 := hSw.1.cell 5; have k6 := hSw.1.cell 6; have k7 := hSw.1.cell 7; have k8 := hSw.1.cell 8; have k9 := hSw.1.cell 9; have k10 := hSw.1.cell 10; have k11 := hSw.1.cell 11; obtain ⟨q0, q1, q2, q3, q4, q5, q6, q7, q8, q9⟩ := hSw.2; clear hSw; simp only [List.getElem?_toArray, List.getElem?_cons_succ, List.getElem?_cons_zero] at k0 k1 k2 k3 k4 k5 k6 k7 k8 k9 k10 k11; go_simp) <;> (with_reducible rfl)
          try simp only [Act.put, List.setIfInBounds_toArray, List.set_cons_zero, List.set_cons_succ]
          refine wpAnyH_take (i := 7) (oi := ⟨some 40, _, _, _, _, _⟩) (v := ?_) rfl (by kernel_rfl) (by kernel_rfl) (by kernel_rfl) (fun _ _ _ h => h) (Or.inl ⟨by rfl, ?_⟩) (by assumption) ?_
          rotate_left 1
          · (intro w hSw; (try dsimp only at hSw); have k0 := hSw.1.cell 0; have k1 := hSw.1.cell 1; have k2 := hSw.1.cell 2; have k3 := hSw.1.cell 3; have k4 := hSw.1.cell 4; have k5 := hSw.1.cell 5; have k6 := hSw.1.cell 6; have k7 := hSw.1.cell 7; have k8 := hSw.1.cell 8; have k9 := hSw.1.cell 9; have k10 := hSw.1.cell 10; have k11 := hSw.1.cell 11; obtain ⟨q0, q1, q2, q3, q4, q5, q6, q7, q8, q9⟩ := hSw.2; clear hSw; simp only [List.getElem?_toArray, List.getElem?_cons_succ, List.getElem?_cons_zero] at k0 k1 k2 k3 k4 k5 k6 k7 k8 k9 k10 k11; go_simp) <;> (with_reducible rfl)
          try simp only [Act.put, List.setIfInBounds_toArray, List.set_cons_zero, List.set_cons_succ]
          refine wpAnyH_take (i := 8) (oi := ⟨some 41, _, _, _, _, _⟩) (v := ?_) rfl (by kernel_rfl) (by kernel_rfl) (by kernel_rfl) (fun _ _ _ h => h) (Or.inl ⟨by rfl, ?_⟩) (by assumption) ?_
          rotate_left 1
          · (intro w hSw; (try dsimp only at hSw); have k0 := hSw.1.cell 0; have k1 := hSw.1.cell 1; have k2 := hSw.1.cell 2; have k3 := hSw.1.cell 3; have k4 := hSw.1.cell 4; have k5 := hSw.1.cell 5; have k6 := hSw.1.cell 6; have k7 := hSw.1.cell 7; have k8 := hSw.1.cell 8; have k9 := hSw.1.cell 9; have k10 := hSw.1.cell 10; have k11 := hSw.1.cell 11; obtain ⟨q0, q1, q2, q3, q4, q5, q6, q7, q8, q9⟩ := hSw.2; clear hSw; simp only [List.getElem?_toArray, List.getElem?_cons_succ, List.getElem?_cons_zero] at k0 k1 k2 k3 k4 k5 k6 k7 k8 k9 k10 k11; go_simp) <;> (with_reducible rfl)
          try simp only [Act.put, List.setIfInBounds_toArray, List.set_cons_zero, List.set_cons_succ]
          refine wpAnyH_take (i := 9) (oi := ⟨some 42, _, _, _, _, _⟩) (v := ?_) rfl (by kernel_rfl) (by kernel_rfl) (by kernel_rfl) (fun _ _ _ h => h) (Or.inl ⟨by rfl, ?_⟩) (by assumption) ?_
          rotate_left 1
          · (intro w hSw; (try dsimp only at hSw); have k0 := hSw.1.cell 0; have k1 := hSw.1.cell 1; have k2 := hSw.1.cell 2; have k3 := hSw.1.cell 3; have k4 := hSw.1.cell 4; have k5 := hSw.1.cell 5; have k6 := hSw.1.cell 6; have k7 := hSw.1.cell 7; have k8 := hSw.1.cell 8; have k9 := hSw.1.cell 9; have k10 := hSw.1.cell 10; have k11 := hSw.1.cell 11; obtain ⟨q0, q1, q2, q3, q4, q5, q6, q7, q8, q9⟩ := hSw.2; clear hSw; simp only [List.getElem?_toArray, List.getElem?_cons_succ, List.getElem?_cons_zero] at k0 k1 k2 k3 k4 k5 k6 k7 k8 k9 k10 k11; go_simp) <;> (with_reducible rfl)
          try simp only [Act.put, List.setIfInBounds_toArray, List.set_cons_zero, List.set_cons_succ]
          refine wpAnyH_take (i := 10) (oi := ⟨some 43, _, _, _, _, _⟩) (v := ?_) rfl (by kernel_rfl) (by kernel_rfl) (by kernel_rfl) (fun _ _ _ h => h) (Or.inl ⟨by rfl, ?_⟩) (by assumption) ?_
          rotate_left 1
          · (intro w hSw; (try dsimp only at hSw); have k0 := hSw.1.cell 0; have k1 := hSw.1.cell 1; have k2 := hSw.1.cell 2; have k3 := hSw.1.cell 3; have k4 := hSw.1.cell 4; have k5 := hSw.1.cell 5; have k6 := hSw.1.cell 6; have k7 := hSw.1.cell 7; have k8 := hSw.1.cell 8; have k9 := hSw.1.cell 9; have k10 := hSw.1.cell 10; have k11 := hSw.1.cell 11; obtain ⟨q0, q1, q2, q3, q4, q5, q6, q7, q8, q9⟩ := hSw.2; clear hSw; simp only [List.getElem?_toArray, List.getElem?_cons_succ, List.getElem?_cons_zero] at k0 k1 k2 k3 k4 k5 k6 k7 k8 k9 k10 k11; go_simp) <;> (with_reducible rfl)
          try simp only [Act.put, List.setIfInBounds_toArray, List.set_cons_zero, List.set_cons_succ]
          refine wpAnyH_take (i := 11) (oi := ⟨some 44, _, _, _, _, _⟩) (v := ?_) rfl (by kernel_rfl) (by kernel_rfl) (by kernel_rfl) (fun _ _ _ h => h) (Or.inl ⟨by rfl, ?_⟩) (by assumption) ?_
          rotate_left 1
          · (intro w hSw; (try dsimp only at hSw); have k0 := hSw.1.cell 0; have k1 := hSw.1.cell 1; have k2 := hSw.1.cell 2; have k3 := hSw.1.cell 3; have k4 := hSw.1.cell 4; have k5 := hSw.1.cell 5; have k6 := hSw.1.cell 6; have k7 := hSw.1.cell 7; have k8 := hSw.1.cell 8; have k9 := hSw.1.cell 9; have k10 := hSw.1.cell 10; have k11 := hSw.1.cell 11; obtain ⟨q0, q1, q2, q3, q4, q5, q6, q7, q8, q9⟩ := hSw.2; clear hSw; simp only [List.getElem?_toArray, List.getElem?_cons_succ, List.getElem?_cons_zero] at k0 k1 k2 k3 k4 k5 k6 k7 k8 k9 k10 k11; go_simp) <;> (with_reducible rfl)
          try simp only [Act.put, List.setIfInBounds_toArray, List.set_cons_zero, List.set_cons_succ]
          refine wpAnyH_take (i := 12) (oi := ⟨some 45, _, _, _, _, _⟩) (v := ?_) rfl (by kernel_rfl) (by kernel_rfl) (by kernel_rfl) (fun _ _ _ h => h) (Or.inl ⟨by rfl, ?_⟩) (by assumption) ?_
          rotate_left 1
          · (intro w hSw; (try dsimp only at hSw); have k0 := hSw.1.cell 0; have k1 := hSw.1.cell 1; have k2 := hSw.1.cell 2; have k3 := hSw.1.cell 3; have k4 := hSw.1.cell 4; have k5 := hSw.1.cell 5; have k6 := hSw.1.cell 6; have k7 := hSw.1.cell 7; have k8 := hSw.1.cell 8; have k9 := hSw.1.cell 9; have k10 := hSw.1.cell 10; have k11 := hSw.1.cell 11; obtain ⟨q0, q1, q2, q3, q4, q5, q6, q7, q8, q9⟩ := hSw.2; clear hSw; simp only [List.getElem?_toArray, List.getElem?_cons_succ, List.getElem?_cons_zero] at k0 k1 k2 k3 k4 k5 k6 k7 k8 k9 k10 k11; go_simp) <;> (with_reducible rfl)
          try simp only [Act.put, List.setIfInBounds_toArray, List.set_cons_zero, List.set_cons_succ]
          refine wpAnyH_take (i := 13) (oi := ⟨some 46, _, _, _, _, _⟩) (v := ?_) rfl (by kernel_rfl) (by kernel_rfl) (by kernel_rfl) (fun _ _ _ h => h) (Or.inl ⟨by rfl, ?_⟩) (by assumption) ?_
          rotate_left 1
          · (intro w hSw; (try dsimp only at hSw); have k0 := hSw.1.cell 0; have k1 := hSw.1.cell 1; have k2 := hSw.1.cell 2; have k3 := hSw.1.cell 3; have k4 := hSw.1.cell 4; have k5 := hSw.1.cell 5; have k6 := hSw.1.cell 6; have k7 := hSw.1.cell 7; have k8 := hSw.1.cell 8; have k9 := hSw.1.cell 9; have k10 := hSw.1.cell 10; have k11 := hSw.1.cell 11; obtain ⟨q0, q1, q2, q3, q4, q5, q6, q7, q8, q9⟩ := hSw.2; clear hSw; simp only [List.getElem?_toArray, List.getElem?_cons_succ, List.getElem?_cons_zero] at k0 k1 k2 k3 k4 k5 k6 k7 k8 k9 k10 k11; go_simp) <;> (with_reducible rfl)
          try simp only [Act.put, List.setIfInBounds_toArray, List.set_cons_zero, List.set_cons_succ]
          refine wpAnyH_take (i := 14) (oi := ⟨some 47, _, _, _, _, _⟩) (v := ?_) rfl (by kernel_rfl) (by kernel_rfl) (by kernel_rfl) (fun _ _ _ h => h) (Or.inl ⟨by rfl, ?_⟩) (by assumption) ?_
          rotate_left 1
          · (intro w hSw; (try dsimp only at hSw); have k0 := hSw.1.cell 0; have k1 := hSw.1.cell 1; have k2 := hSw.1.cell 2; have k3 := hSw.1.cell 3; have k4 := hSw.1.cell 4; have k5 := hSw.1.cell 5; have k6 := hSw.1.cell 6; have k7 := hSw.1.cell 7; have k8 := hSw.1.cell 8; have k9 := hSw.1.cell 9; have k10 := hSw.1.cell 10; have k11 := hSw.1.cell 11; obtain ⟨q0, q1, q2, q3, q4, q5, q6, q7, q8, q9⟩ := hSw.2; clear hSw; simp only [List.getElem?_toArray, List.getElem?_cons_succ, List.getElem?_cons_zero] at k0 k1 k2 k3 k4 k5 k6 k7 k8 k9 k10 k11; go_simp) <;> (with_reducible rfl)
          try simp only [Act.put, List.setIfInBounds_toArray, List.set_cons_zero, List.set_cons_succ]
          refine wpAnyH_take (i := 15) (oi := ⟨some 48, _, _, _, _, _⟩) (v := ?_) rfl (by kernel_rfl) (by kernel_rfl) (by kernel_rfl) (fun _ _ _ h => h) (Or.inl ⟨by rfl, ?_⟩) (by assumption) ?_
          rotate_left 1
          · (intro w hSw; (try dsimp only at hSw); have k0 := hSw.1.cell 0; have k1 := hSw.1.cell 1; have k2 := hSw.1.cell 2; have k3 := hSw.1.cell 3; have k4 := hSw.1.cell 4; have k5 := hSw.1.cell 5; have k6 := hSw.1.cell 6; have k7 := hSw.1.cell 7; have k8 := hSw.1.cell 8; have k9 := hSw.1.cell 9; have k10 := hSw.1.cell 10; have k11 := hSw.1.cell 11; obtain ⟨q0, q1, q2, q3, q4, q5, q6, q7, q8, q9⟩ := hSw.2; clear hSw; simp only [List.getElem?_toArray, List.getElem?_cons_succ, List.getElem?_cons_zero] at k0 k1 k2 k3 k4 k5 k6 k7 k8 k9 k10 k11; go_simp) <;> (with_reducible rfl)
          try simp only [Act.put, List.setIfInBounds_toArray, List.set_cons_zero, List.set_cons_succ]
          refine wpAnyH_take (i := 16) (oi := ⟨some 49, _, _, _, _, _⟩) (v := ?_) rfl (by kernel_rfl) (by kernel_rfl) (by kernel_rfl) (fun _ _ _ h => h) (Or.inl ⟨by rfl, ?_⟩) (by assumption) ?_
          rotate_left 1
          · (intro w hSw; (try dsimp only at hSw); have k0 := hSw.1.cell 0; have k1 := hSw.1.cell 1; have k2 := hSw.1.cell 2; have k3 := hSw.1.cell 3; have k4 := hSw.1.cell 4; have k5 := hSw.1.cell 5; have k6 := hSw.1.cell 6; have k7 := hSw.1.cell 7; have k8 := hSw.1.cell 8; have k9 := hSw.1.cell 9; have k10 := hSw.1.cell 10; have k11 := hSw.1.cell 11; obtain ⟨q0, q1, q2, q3, q4, q5, q6, q7, q8, q9⟩ := hSw.2; clear hSw; simp only [List.getElem?_toArray, List.getElem?_cons_succ, List.getElem?_cons_zero] at k0 k1 k2 k3 k4 k5 k6 k7 k8 k9 k10 k11; go_simp) <;> (with_reducible rfl)
          try simp only [Act.put, List.setIfInBounds_toArray, List.set_cons_zero, List.set_cons_succ]
          refine wpAnyH_take (i := 17) (oi := ⟨some 50, _, _, _, _, _⟩) (v := ?_) rfl (by kernel_rfl) (by kernel_rfl) (by kernel_rfl) (fun _ _ _ h => h) (Or.inl ⟨by rfl, ?_⟩) (by assumption) ?_
          rotate_left 1
          · (intro w hSw; (try dsimp only at hSw); have k0 := hSw.1.cell 0; have k1 := hSw.1.cell 1; have k2 := hSw.1.cell 2; have k3 := hSw.1.cell 3; have k4 := hSw.1.cell 4; have k5 := hSw.1.cell 5; have k6 := hSw.1.cell 6; have k7 := hSw.1.cell 7; have k8 := hSw.1.cell 8; have k9 := hSw.1.cell 9; have k10 := hSw.1.cell 10; have k11 := hSw.1.cell 11; obtain ⟨q0, q1, q2, q3, q4, q5, q6, q7, q8, q9⟩ := hSw.2; clear hSw; simp only [List.getElem?_toArray, List.getElem?_cons_succ, List.getElem?_cons_zero] at k0 k1 k2 k3 k4 k5 k6 k7 k8 k9 k10 k11; go_simp) <;> (with_reducible rfl)
          try simp only [Act.put, List.setIfInBounds_toArray, List.set_cons_zero, List.set_cons_succ]
          refine wpAnyH_take (i := 18) (oi := ⟨some 51, _, _, _, _, _⟩) (v := ?_) rfl (by kernel_rfl) (by kernel_rfl) (by kernel_rfl) (fun _ _ _ h => h) (Or.inl ⟨by rfl, ?_⟩) (by assumption) ?_
          rotate_left 1
          · (intro w hSw; (try dsimp only at hSw); have k0 := hSw.1.cell 0; have k1 := hSw.1.cell 1; have k2 := hSw.1.cell 2; have k3 := hSw.1.cell 3; have k4 := hSw.1.cell 4; have k5 := hSw.1.cell 5; have k6 := hSw.1.cell 6; have k7 := hSw.1.cell 7; have k8 := hSw.1.cell 8; have k9 := hSw.1.cell 9; have k10 := hSw.1.cell 10; have k11 := hSw.1.cell 11; obtain ⟨q0, q1, q2, q3, q4, q5, q6, q7, q8, q9⟩ := hSw.2; clear hSw; simp only [List.getElem?_toArray, List.getElem?_cons_succ, List.getElem?_cons_zero] at k0 k1 k2 k3 k4 k5 k6 k7 k8 k9 k10 k11; go_simp) <;> (with_reducible rfl)
          try simp only [Act.put, List.setIfInBounds_toArray, List.set_cons_zero, List.set_cons_succ]
          refine wpAnyH_ready (rs := [19]) (by kernel_rfl) (by simp) ?_
          refine AllReadyH.cons (o := ⟨some 52, _, _, _, _, _⟩) rfl (fun K hK => ?_) AllReadyH.nil
          go_simp
          go_at_call 34
          refine HSM2.out.mono ?_
          clear HSM2 hHeld
          rintro e wb ⟨he, hfb⟩
          obtain rfl : e = .returned (.bool true) := he
          have HFb : Hid (Fr NoBlk w8 wb) := (Fr.refl _ _).drew.trans hfb
          have HHI2 := Lib.hid (HHI.out _ HFb.out)
          clear hfb HHI
          refine hK.out _ _ ?_ (fun hHeld => ?_)
          · exact HSD.out _ HFb.out
          clear hK K
          try simp only [Act.put, List.setIfInBounds_toArray, List.set_cons_zero, List.set_cons_succ]
          refine wpAnyH_take (i := 20) (oi := ⟨some 53, _, _, _, _, _⟩) (v := ?_) rfl (by kernel_rfl) (by kernel_rfl) (by kernel_rfl) (fun _ _ _ h => h) (Or.inl ⟨by rfl, ?_⟩) (by assumption) ?_
          rotate_left 1
          · (intro w hSw; (try dsimp only at hSw); have k0 := hSw.1.cell 0; have k1 := hSw.1.cell 1; have k2 := hSw.1.cell 2; have k3 := hSw.1.cell 3; have k4 := hSw.1.cell 4; have k5 := hSw.1.cell 5; have k6 := hSw.1.cell 6; have k7 := hSw.1.cell 7; have k8 := hSw.1.cell 8; have k9 := hSw.1.cell 9; have k10 := hSw.1.cell 10; have k11 := hSw.1.cell 11; obtain ⟨q0, q1, q2, q3, q4, q5, q6, q7, q8, q9⟩ := hSw.2; clear hSw; simp only [List.getElem?_toArray, List.getElem?_cons_succ, List.getElem?_cons_zero] at k0 k1 k2 k3 k4 k5 k6 k7 k8 k9 k10 k11; go_simp) <;> (with_reducible rfl)
          try simp only [Act.put, List.setIfInBounds_toArray, List.set_cons_zero, List.set_cons_succ]
          refine wpAnyH_take (i := 21) (oi := ⟨some 54, _, _, _, _, _⟩) (v := ?_) rfl (by kernel_rfl) (by kernel_rfl) (by kernel_rfl) (fun _ _ _ h => h) (Or.inl ⟨by rfl, ?_⟩) (by assumption) ?_
          rotate_left 1
          · (intro w hSw; (try dsimp only at hSw); have k0 := hSw.1.cell 0; have k1 := hSw.1.cell 1; have k2 := hSw.1.cell 2; have k3 := hSw.1.cell 3; have k4 := hSw.1.cell 4; have k5 := hSw.1.cell 5; have k6 := hSw.1.cell 6; have k7 := hSw.1.cell 7; have k8 := hSw.1.cell 8; have k9 := hSw.1.cell 9; have k10 := hSw.1.cell 10; have k11 := hSw.1.cell 11; obtain ⟨q0, q1, q2, q3, q4, q5, q6, q7, q8, q9⟩ := hSw.2; clear hSw; simp only [List.getElem?_toArray, List.getElem?_cons_succ, List.getElem?_cons_zero] at k0 k1 k2 k3 k4 k5 k6 k7 k8 k9 k10 k11; go_simp) <;> (with_reducible rfl)
          try simp only [Act.put, List.setIfInBounds_toArray, List.set_cons_zero, List.set_cons_succ]
          refine wpAnyH_take (i := 22) (oi := ⟨some 55, _, _, _, _, _⟩) (v := ?_) rfl (by kernel_rfl) (by kernel_rfl) (by kernel_rfl) (fun _ _ _ h => h) (Or.inl ⟨by rfl, ?_⟩) (by assumption) ?_
          rotate_left 1
          · (intro w hSw; (try dsimp only at hSw); have k0 := hSw.1.cell 0; have k1 := hSw.1.cell 1; have k2 := hSw.1.cell 2; have k3 := hSw.1.cell 3; have k4 := hSw.1.cell 4; have k5 := hSw.1.cell 5; have k6 := hSw.1.cell 6; have k7 := hSw.1.cell 7; have k8 := hSw.1.cell 8; have k9 := hSw.1.cell 9; have k10 := hSw.1.cell 10; have k11 := hSw.1.cell 11; obtain ⟨q0, q1, q2, q3, q4, q5, q6, q7, q8, q9⟩ := hSw.2; clear hSw; simp only [List.getElem?_toArray, List.getElem?_cons_succ, List.getElem?_cons_zero] at k0 k1 k2 k3 k4 k5 k6 k7 k8 k9 k10 k11; go_simp) <;> (with_reducible rfl)
          try simp only [Act.put, List.setIfInBounds_toArray, List.set_cons_zero, List.set_cons_succ]
          refine wpAnyH_take (i := 23) (oi := ⟨some 56, _, _, _, _, _⟩) (v := ?_) rfl (by kernel_rfl) (by kernel_rfl) (by kernel_rfl) (fun _ _ _ h => h) (Or.inl ⟨by rfl, ?_⟩) (by assumption) ?_
          rotate_left 1
          · (intro w hSw; (try dsimp only at hSw); have k0 := hSw.1.cell 0; have k1 := hSw.1.cell 1; have k2 := hSw.1.cell 2; have k3 := hSw.1.cell 3; have k4 := hSw.1.cell 4; have k5 := hSw.1.cell 5; have k6 := hSw.1.cell 6; have k7 := hSw.1.cell 7; have k8 := hSw.1.cell 8; have k9 := hSw.1.cell 9; have k10 := hSw.1.cell 10; have k11 := hSw.1.cell 11; obtain ⟨q0, q1, q2, q3, q4, q5, q6, q7, q8, q9⟩ := hSw.2; clear hSw; simp only [List.getElem?_toArray, List.getElem?_cons_succ, List.getElem?_cons_zero] at k0 k1 k2 k3 k4 k5 k6 k7 k8 k9 k10 k11; go_simp) <;> (with_reducible rfl)
          try simp only [Act.put, List.setIfInBounds_toArray, List.set_cons_zero, List.set_cons_succ]
          refine wpAnyH_take (i := 24) (oi := ⟨some 57, _, _, _, _, _⟩) (v := ?_) rfl (by kernel_rfl) (by kernel_rfl) (by kernel_rfl) (fun _ _ _ h => h) (Or.inl ⟨by rfl, ?_⟩) (by assumption) ?_
          rotate_left 1
          · (intro w hSw; (try dsimp only at hSw); have k0 := hSw.1.cell 0; have k1 := hSw.1.cell 1; have k2 := hSw.1.cell 2; have k3 := hSw.1.cell 3; have k4 := hSw.1.cell 4; have k5 := hSw.1.cell 5; have k6 := hSw.1.cell 6; have k7 := hSw.1.cell 7; have k8 := hSw.1.cell 8; have k9 := hSw.1.cell 9; have k10 := hSw.1.cell 10; have k11 := hSw.1.cell 11; obtain ⟨q0, q1, q2, q3, q4, q5, q6, q7, q8, q9⟩ := hSw.2; clear hSw; simp only [List.getElem?_toArray, List.getElem?_cons_succ, List.getElem?_cons_zero] at k0 k1 k2 k3 k4 k5 k6 k7 k8 k9 k10 k11; go_simp) <;> (with_reducible rfl)
          try simp only [Act.put, List.setIfInBounds_toArray, List.set_cons_zero, List.set_cons_succ]
          refine wpAnyH_take (i := 25) (oi := ⟨some 58, _, _, _, _, _⟩) (v := ?_) rfl (by kernel_rfl) (by kernel_rfl) (by kernel_rfl) (fun _ _ _ h => h) (Or.inl ⟨by rfl, ?_⟩) (by assumption) ?_
          rotate_left 1
          · (intro w hSw; (try dsimp only at hSw); have k0 := hSw.1.cell 0; have k1 := hSw.1.cell 1; have k2 := hSw.1.cell 2; have k3 := hSw.1.cell 3; have k4 := hSw.1.cell 4; have k5 := hSw.1.cell 5; have k6 := hSw.1.cell 6; have k7 := hSw.1.cell 7; have k8 := hSw.1.cell 8; have k9 := hSw.1.cell 9; have k10 := hSw.1.cell 10; have k11 := hSw.1.cell 11; obtain ⟨q0, q1, q2, q3, q4, q5, q6, q7, q8, q9⟩ := hSw.2; clear hSw; simp only [List.getElem?_toArray, List.getElem?_cons_succ, List.getElem?_cons_zero] at k0 k1 k2 k3 k4 k5 k6 k7 k8 k9 k10 k11; go_simp) <;> (with_reducible rfl)
          try simp only [Act.put, List.setIfInBounds_toArray, List.set_cons_zero, List.set_cons_succ]
          refine wpAnyH_ready (rs := [26]) (by kernel_rfl) (by simp) ?_
          refine AllReadyH.cons (o := ⟨some 59, _, _, _, _, _⟩) rfl (fun K hK => ?_) AllReadyH.nil
          go_simp
          go_at_call 28
          refine HHI2.out.mono ?_
          clear HHI2 hHeld
          rintro e wc ⟨he, hfc⟩
          obtain rfl : e = .returned (.bool true) := he
          have HFc : Hid (Fr NoBlk w8 wc) := HFb.out.trans hfc
          clear hfc HFb
          refine hK.out _ _ ?_ (fun hHeld => ?_)
          · exact HSD.out _ HFc.out
          clear hK K
          try simp only [Act.put, List.setIfInBounds_toArray, List.set_cons_zero, List.set_cons_succ]
          refine wpAnyH_take (i := 27) (oi := ⟨some 60, _, _, _, _, _⟩) (v := ?_) rfl (by kernel_rfl) (by kernel_rfl) (by kernel_rfl) (fun _ _ _ h => h) (Or.inl ⟨by rfl, ?_⟩) (by assumption) ?_
          rotate_left 1
          · (intro w hSw; (try dsimp only at hSw); have k0 := hSw.1.cell 0; have k1 := hSw.1.cell 1; have k2 := hSw.1.cell 2; have k3 := hSw.1.cell 3; have k4 := hSw.1.cell 4; have k5 := hSw.1.cell 5; have k6 := hSw.1.cell 6; have k7 := hSw.1.cell 7; have k8 := hSw.1.cell 8; have k9 := hSw.1.cell 9; have k10 := hSw.1.cell 10; have k11 := hSw.1.cell 11; obtain ⟨q0, q1, q2, q3, q4, q5, q6, q7, q8, q9⟩ := hSw.2; clear hSw; simp only [List.getElem?_toArray, List.getElem?_cons_succ, List.getElem?_cons_zero] at k0 k1 k2 k3 k4 k5 k6 k7 k8 k9 k10 k11; go_simp) <;> (with_reducible rfl)
          try simp only [Act.put, List.setIfInBounds_toArray, List.set_cons_zero, List.set_cons_succ]
          refine wpAnyH_take (i := 28) (oi := ⟨some 61, _, _, _, _, _⟩) (v := ?_) rfl (by kernel_rfl) (by kernel_rfl) (by kernel_rfl) (fun _ _ _ h => h) (Or.inl ⟨by rfl, ?_⟩) (by assumption) ?_
          rotate_left 1
          · (intro w hSw; (try dsimp only at hSw); have k0 := hSw.1.cell 0; have k1 := hSw.1.cell 1; have k2 := hSw.1.cell 2; have k3 := hSw.1.cell 3; have k4 := hSw.1.cell 4; have k5 := hSw.1.cell 5; have k6 := hSw.1.cell 6; have k7 := hSw.1.cell 7; have k8 := hSw.1.cell 8; have k9 := hSw.1.cell 9; have k10 := hSw.1.cell 10; have k11 := hSw.1.cell 11; obtain ⟨q0, q1, q2, q3, q4, q5, q6, q7, q8, q9⟩ := hSw.2; clear hSw; simp only [List.getElem?_toArray, List.getElem?_cons_succ, List.getElem?_cons_zero] at k0 k1 k2 k3 k4 k5 k6 k7 k8 k9 k10 k11; go_simp) <;> (with_reducible rfl)
          try simp only [Act.put, List.setIfInBounds_toArray, List.set_cons_zero, List.set_cons_succ]
          refine wpAnyH_done (by kernel_rfl) ?_ _
          have HBX := Lib.hid (HSD.out _ HFc.out).1
          have HCNc : Hid (CntAt wc gq xs.length fun j => cntC xs r j + inPre ps n j) := HCN8.out.fr HFc.out fun e => e
          have HFNc := Lib.hid (HFN8.out.trans (HFc.out.mono fun _ _ e => e.elim))
          have HPUT : Hid (CntAt (wc.setCell ⟨gq, p.1, none⟩ (.int .i64 ((fv + 1 : Nat) : Int))) gq xs.length fun j => cntC xs r j + inPre ps (n + 1) j) := (HCNc.out.put p.1 (fv + 1)).congr fun j => by rw [HFV.out]; exact HNX.out j
          have HFP : Hid (Fr (fun b => b = gq) w5 (wc.setCell ⟨gq, p.1, none⟩ (.int .i64 ((fv + 1 : Nat) : Int)))) := HFNc.out.setCell (p := ⟨gq, p.1, none⟩) (fun _ => rfl) _
          obtain ⟨fc, ff⟩ := HCNc.out.cell HPL.out
          rw [← HFV.out] at fc
          have d1 : wc.cell? ⟨q, 1, none⟩ = some (.int .i64 (p.1 : Int)) := HBX.out.cell 1
          have d1' : (wc.setCell ⟨gq, p.1, none⟩ (.int .i64 ((fv + 1 : Nat) : Int))).cell? ⟨q, 1, none⟩ = some (.int .i64 (p.1 : Int)) := by
            obtain ⟨cs, hb, _⟩ := HCNc.out.bk
            exact (HBX.out.far (p := ⟨gq, p.1, none⟩) (fun e => Bk.apart HBX.out hb (by decide) e) _).cell 1
          obtain ⟨fv1, hfv1⟩ : ∃ f, f = fv + 1 := ⟨_, rfl⟩
          have hw1 : IntKind.i64.wrap ((fv : Int) + 1) = (fv1 : Int) := by rw [show (fv : Int) + 1 = (fv1 : Int) by omega]; exact IntWalk.i64_in _ (by omega)
          rw [← hfv1] at HPUT HFP d1'
          clear hfv1 HBX HCNc HFNc HSD HCN8 HFN8
          go_wp2_with fail
          go_roundw
          case rel => exact ⟨n + 1, by omega, by go_num, by rw [HLN.out], HPUT, HFP⟩
          case measure => simp [intOf]; omega
        have i3 : (np : Int) ≤ (n : Int) := by omega
        have HCR : Hid (CntAt wr gq xs.length fun j => cntC xs (r + 1) j) := HCN.out.congr fun j => by
          show _ = cntC xs r j + _
          rw [← HP.out, ← HNP.out, show n = np by omega]
        have HFR : Hid (Fr (fun b => b = gq) w4 wr) := HF5.out.trans HFN.out
        clear hlt2 HCN HFN
        go_wp2_with fail
        go_roundw
        case rel => exact ⟨r + 1, by omega, by go_num, HCR, HFR⟩
        case measure => simp [intOf]; omega
    have hr : r = 3 := by omega
    obtain ⟨w6, hw6⟩ : ∃ w6, w6 = wr := ⟨_, rfl⟩
    subst hw6
    have HC6 : Hid (CntAt w6 gq xs.length fun j => cntC xs 3 j) := by
      show CntAt _ _ _ _
      have h := HCN.out
      rw [hr] at h
      exact h
    have HK6 : Hid (Kg Try.prog 31 tgl TgOk w6 bR 0 (runsM (gAt xs 0))) := HK4.out.fr HFW.out (by have := HGE.out; omega)
    have HF6 := Lib.hid (HBM.out _ HFW.out)
    have HB6 : Hid (∀ W, Fr (fun b => b = bR) w6 W → Fr NoBlk w W ∧ CntAt W gq xs.length fun j => cntC xs 3 j) := fun W hW => ⟨HF6.out.step hW fun i hi e => by have := HGE.out; omega, HC6.out.fr hW (by have := HGE.out; omega)⟩
    have i1 : (3 : Int) ≤ (r : Int) := by omega
    clear hr hlt HCN HFW HK4 HC6
    go_wp2_with fail
    go_loopw [74] (fun z wr => ∃ n s : Nat, n ≤ xs.length ∧ z = .int .i64 n ∧ s ≤ n ∧ Hid (Kg Try.prog 31 tgl TgOk wr bR s (runsM (gAt xs n))) ∧ Hid (Fr (fun b => b = bR) w6 wr)) (fun z _ => xs.length - (intOf z).toNat)
    case atStart => exact ⟨0, 0, by omega, rfl, Nat.le_refl _, HK6, Fr.refl _ _⟩
    case round =>
      clear HK6
      obtain ⟨n, s, hn3, rfl, hs3, HKG, HFW⟩ := hrel
      by_cases hlt : n < xs.length
      · obtain ⟨o, ho⟩ : ∃ o, xs[n]? = some o := ⟨_, List.getElem?_eq_getElem hlt⟩
        obtain ⟨ho1, ho2⟩ := HX.out o (List.mem_of_getElem? ho)
        have hos := HSM.out o (List.mem_of_getElem? ho)
        obtain ⟨hfw, hcn⟩ := HB6.out _ HFW.out
        obtain ⟨lb, lq, hA, hoc⟩ := Rd.ocells (HR.out.nofr hfw) ho
        obtain ⟨c0, c1, c2, c3, c4, c5, c6, c7, c8, c9⟩ := hoc
        obtain ⟨q, hq⟩ : ∃ q, q = wr.heap.size := ⟨_, rfl⟩
        obtain ⟨w8, hw8⟩ : ∃ w8, w8 = wr.alloc (.cells #[.int .i64 o.node, .int .u64 (o.epoch : Int), .int .u64 (o.seq : Int), .int .i64 o.tr, .int .i64 o.t.kind, .slice o.t.ra o.t.reads.length o.t.rc, .slice o.t.wa o.t.writes.length o.t.wc, .slice o.t.oa o.t.ops.length o.t.oc, .int .i64 o.t.to, .slice o.ma o.marks.length o.mc] 38) := ⟨_, rfl⟩
        have hf8 : Fr NoBlk wr w8 := by rw [hw8]; exact (Fr.refl _ _).alloc _
        have hbp : Bk w8 q 38 #[.int .i64 o.node, .int .u64 (o.epoch : Int), .int .u64 (o.seq : Int), .int .i64 o.tr, .int .i64 o.t.kind, .slice o.t.ra o.t.reads.length o.t.rc, .slice o.t.wa o.t.writes.length o.t.wc, .slice o.t.oa o.t.ops.length o.t.oc, .int .i64 o.t.to, .slice o.ma o.marks.length o.mc] := by rw [hw8, hq]; exact Bk.new _ _ _
        have HSD : Hid (∀ W, Fr NoBlk w8 W → Bk W q 38 #[.int .i64 o.node, .int .u64 (o.epoch : Int), .int .u64 (o.seq : Int), .int .i64 o.tr, .int .i64 o.t.kind, .slice o.t.ra o.t.reads.length o.t.rc, .slice o.t.wa o.t.writes.length o.t.wc, .slice o.t.oa o.t.ops.length o.t.oc, .int .i64 o.t.to, .slice o.ma o.marks.length o.mc] ∧ OdIn W o ∧ CntAt W gq xs.length (fun j => cntC xs 3 j) ∧ Kg Try.prog 31 tgl TgOk W bR s (runsM (gAt xs n))) := fun W hW =>
          ⟨hbp.fr hW fun e => e, ho1.nofr (hfw.trans (hf8.trans hW)), hcn.fr (hf8.trans hW) fun e => e, HKG.out.fr (hf8.trans hW) fun e => e⟩
        have HFW8 := Lib.hid (HFW.out.trans (hf8.mono fun _ _ e => e.elim))
        have HO := Lib.hid ho
        have HTK := Lib.hid ho2
        have HMK : Hid (o.marks.length ≤ 1000) := by show _ ≤ _; have := hos.m; omega
        have HQL : Hid (q < w8.heap.size) := hbp.lt
        have j1 : (0 : Int) ≤ (n : Int) := by omega
        have j2 : (n : Int) < (xs.length : Int) := by omega
        have HNL := Lib.hid hlt
        rw [hA]
        clear ho ho1 ho2 hos hfw hcn hf8 hbp hlt HKG HFW hA
        go_wp2_with fail
        rw [← hw8, ← hq]
        clear hw8 hq c0 c1 c2 c3 c4 c5 c6 c7 c8 c9
        go_loopw [11, 12] (fun hz z wr => ∃ r : Nat, r ≤ 3 ∧ z = .int .i64 r ∧ hz = .int .i64 (homC o r) ∧ Hid (Fr NoBlk w8 wr)) (fun _ z _ => 3 - (intOf z).toNat)
        case atStart => exact ⟨0, by omega, rfl, rfl, Fr.refl _ _⟩
        case round =>
          obtain ⟨r2, hr2, rfl, rfl, HFN⟩ := hrel
          obtain ⟨hv, hhv⟩ : ∃ hv, hv = homC o r2 := ⟨_, rfl⟩
          have hv2 : hv ≤ 3 := by have := homC_le o r2; omega
          obtain ⟨hbq, hoi, hcn, hkg⟩ := HSD.out _ HFN.out
          have d0 : wr.cell? ⟨q, 0, none⟩ = some (.int .i64 o.node) := hbq.cell 0
          have d1 : wr.cell? ⟨q, 1, none⟩ = some (.int .u64 (o.epoch : Int)) := hbq.cell 1
          have d2 : wr.cell? ⟨q, 2, none⟩ = some (.int .u64 (o.seq : Int)) := hbq.cell 2
          have d3 : wr.cell? ⟨q, 3, none⟩ = some (.int .i64 o.tr) := hbq.cell 3
          have d4 : wr.cell? ⟨q, 4, none⟩ = some (.int .i64 o.t.kind) := hbq.cell 4
          have d5 : wr.cell? ⟨q, 5, none⟩ = some (.slice o.t.ra o.t.reads.length o.t.rc) := hbq.cell 5
          have d6 : wr.cell? ⟨q, 6, none⟩ = some (.slice o.t.wa o.t.writes.length o.t.wc) := hbq.cell 6
          have d7 : wr.cell? ⟨q, 7, none⟩ = some (.slice o.t.oa o.t.ops.length o.t.oc) := hbq.cell 7
          have d8 : wr.cell? ⟨q, 8, none⟩ = some (.int .i64 o.t.to) := hbq.cell 8
          have d9 : wr.cell? ⟨q, 9, none⟩ = some (.slice o.ma o.marks.length o.mc) := hbq.cell 9
          rw [← hhv]
          by_cases hlt3 : r2 < 3
          · obtain ⟨hb, hhb⟩ : ∃ hb, hb = (homesOf o.marks).contains (r2 : Int) := ⟨_, rfl⟩
            have HHI := Lib.hid (dhomein_any wr o hoi HMK.out (r2 : Int))
            have HNX : Hid (homC o (r2 + 1) = hv + (if hb then 1 else 0)) := by show homC o r2 + _ = _; rw [hhv, hhb]
            rw [← hhb] at HHI
            unfold odv oda at HHI
            have k1 : (r2 : Int) < 3 := by omega
            clear hhv hhb hbq hoi hcn hkg hlt3
            cases hb with
            | false =>
              go_wp2_with fail
              refine HHI.out.mono ?_
              clear HHI
              rintro e w9 ⟨rfl, hf9⟩
              have HF9 := Lib.hid (HFN.out.trans hf9)
              clear hf9
              go_wp2_with fail
              go_roundw
              case rel => exact ⟨r2 + 1, by omega, by go_num, by rw [HNX.out]; rfl, HF9⟩
              case measure => simp [intOf]; omega
            | true =>
              go_wp2_with fail
              refine HHI.out.mono ?_
              clear HHI
              rintro e w9 ⟨rfl, hf9⟩
              have HF9 := Lib.hid (HFN.out.trans hf9)
              clear hf9
              go_wp2_with fail
              go_roundw
              case rel => exact ⟨r2 + 1, by omega, by go_num, by rw [HNX.out]; go_num, HF9⟩
              case measure => simp [intOf]; omega
          have k1 : (3 : Int) ≤ (r2 : Int) := by omega
          have HHV : Hid (hv = homC o 3) := by show _ = _; rw [hhv, show r2 = 3 by omega]
          have HKW := Lib.hid hkg
          have hlk := hkg.look1 tagKeyT Try.underlying52 (zeroBool wr) HTK.out
          rw [runsM_get] at hlk
          have hgn := gAt_next HO.out
          have HSI := Lib.hid (dsingle_any wr o hoi HMK.out)
          have HCW := Lib.hid hcn
          have HBW := Lib.hid hbq
          have HCC : Hid (cntC xs 3 n = if gAt xs n (tgOf o) || singleOf o then 0 else hv) := by show _ = _; rw [cntC_hom HO.out 3, ← HHV.out]
          have HCE : Hid (∀ (W : World) (D : Nat → Prop), Fr D wr W → ¬ D gq → W.cell? ⟨gq, n, none⟩ = some (.int .i64 ((if gAt xs n (tgOf o) || singleOf o then 0 else hv : Nat) : Int))) := fun W D hW hD => by
            have h := ((HCW.out.fr hW hD).cell HNL.out).1
            rw [HCC.out] at h
            exact h
          obtain ⟨sn, hsn⟩ : ∃ sn, sn = gAt xs n (tgOf o) := ⟨_, rfl⟩
          obtain ⟨sg, hsg⟩ : ∃ sg, sg = singleOf o := ⟨_, rfl⟩
          rw [← hsn] at hlk
          rw [← hsn, ← hsg] at HCE
          rw [← hsg] at HSI hgn
          have HSN := Lib.hid hsn
          have HGN := Lib.hid hgn
          have HFZ := Lib.hid (HFW8.out.trans (HFN.out.mono fun _ _ e => e.elim))
          unfold odv oda at HSI
          unfold tgv tgOf at hlk
          dsimp only at hlk
          clear hhv hkg hgn hcn hoi hbq hsn hsg hlt3
          cases sn with
          | true =>
            have hce : wr.cell? ⟨gq, n, none⟩ = some (.int .i64 0) := HCE.out wr NoBlk (Fr.refl _ _) fun e => e
            have HG2 : Hid (gAt xs (n + 1) = gAt xs n) := by
              show _ = _
              rw [← HGN.out]
              cases sg
              · exact addT_old HSN.out.symm
              · rfl
            clear HSI
            go_wp2_with fail
            go_roundw
            case rel => exact ⟨n + 1, s, by omega, by go_num, by omega, by rw [HG2.out]; exact HKW, HFZ⟩
            case measure => simp [intOf]; omega
          | false =>
            go_wp2_with fail
            refine HSI.out.mono ?_
            clear HSI hlk d0 d1 d2 d3 d4 d5 d6 d7 d8 d9
            rintro e w9 ⟨rfl, hf9⟩
            have HK9 : Hid (Kg Try.prog 31 tgl TgOk w9 bR s (runsM (gAt xs n))) := HKW.out.fr hf9 fun e => e
            have HF9 := Lib.hid (HFZ.out.trans (hf9.mono fun _ _ e => e.elim))
            have HB9 := Lib.hid (HBW.out.fr hf9 fun e => e)
            have HN9 := Lib.hid hf9
            clear hf9
            cases sg with
            | true =>
              have hce : w9.cell? ⟨gq, n, none⟩ = some (.int .i64 0) := HCE.out w9 NoBlk HN9.out fun e => e
              have HG2 : Hid (gAt xs (n + 1) = gAt xs n) := HGN.out.symm
              go_wp2_with fail
              go_roundw
              case rel => exact ⟨n + 1, s, by omega, by go_num, by omega, by rw [HG2.out]; exact HK9, HF9⟩
              case measure => simp [intOf]; omega
            | false =>
              obtain ⟨we, hput, hkg, hfe⟩ := Kg.put HK9.out tagKeyT Try.underlying52 (by unfold maxLen; omega) HTK.out (.bool true)
              rw [runsM_put, runsM_some, ← HSN.out] at hkg
              have HG2 : Hid (addT (gAt xs n) (tgOf o) = gAt xs (n + 1)) := HGN.out
              have HKE : Hid (Kg Try.prog 31 tgl TgOk we bR (s + 1) (runsM (gAt xs (n + 1)))) := by
                show Kg _ _ _ _ _ _ _ _
                rw [← HG2.out]
                exact hkg
              have HFE : Hid (Fr (fun b => b = bR) w6 we) := HF9.out.trans hfe
              have hce : we.cell? ⟨gq, n, none⟩ = some (.int .i64 (hv : Int)) := HCE.out we (fun b => b = bR) ((HN9.out.mono fun _ _ e => e.elim).trans hfe) (by have := HGE.out; omega)
              unfold tgv tgOf at hput
              dsimp only at hput
              have d0 : w9.cell? ⟨q, 0, none⟩ = some (.int .i64 o.node) := HB9.out.cell 0
              have d1 : w9.cell? ⟨q, 1, none⟩ = some (.int .u64 (o.epoch : Int)) := HB9.out.cell 1
              have d2 : w9.cell? ⟨q, 2, none⟩ = some (.int .u64 (o.seq : Int)) := HB9.out.cell 2
              have d3 : w9.cell? ⟨q, 3, none⟩ = some (.int .i64 o.tr) := HB9.out.cell 3
              clear hkg hfe
              go_wp2_with fail
              go_roundw
              case rel => exact ⟨n + 1, s + 1, by omega, by go_num, by omega, HKE, HFE⟩
              case measure => simp [intOf]; omega
      have j3 : (xs.length : Int) ≤ (n : Int) := by omega
      have HFZ := Lib.hid (HB6.out _ HFW.out).1
      clear hlt
      go_wp2_with fail
      go_ret
      exact ⟨rfl, HFZ.out⟩

theorem paramsOk : ∀ t ∈ Try.f11.params.toList, Try.prog.readableRec t = true ∧ t < Try.prog.types.size := fun t ht => by
  have h := List.all_eq_true.1 (show (Try.f11.params.toList.all fun t => Try.prog.readableRec t && decide (t < Try.prog.types.size)) = true by kernel_rfl) t ht
  simpa using h

set_option maxRecDepth 100000 in
theorem lifted (os : Os) (started : os.Started) (H : Type) (enc : TypeId × Value → H) :
    ReturnsInHanded {} Try.checked os 11 .any (Rows.splitOrderSpec.pre6 enc Try.prog Try.f11 Rows.splitOrderRow.domain false) (Rows.splitOrderSpec.post enc Try.prog Try.f11 false true false false) := by
  refine returnsInHanded_of_change (C := Try.checked) own started (by kernel_rfl) Try.func11
    (ChangeSpec.witness6 (enc := enc) (C := Try.checked) false ⟨#[], #[.slice none 0 0], []⟩ 8 (by kernel_rfl) (by kernel_rfl) (by kernel_rfl) (by kernel_rfl)) ?_
  intro W base args ds gs before hval0 hW _ _
  have hval : ∀ (j : Nat) t v, Try.f11.params[j]? = some t → args[j]? = some v → Value.okWide Try.prog W .any base t v := hval0
  have hW' := hW
  obtain ⟨p, q, hA0, hV, rfl, _, _⟩ := hW
  have hA : DataW.TrodAll enc Try.prog W 0 (fun _ => true) true Try.f11.params.toList args.toList ds p := hA0
  rw [Try.params11] at hA hval
  obtain ⟨v0, vs0, d0, ds0, p0, q0, hargs, rfl, rfl, h0, r0⟩ := trodAll_cons hA
  obtain ⟨rfl, rfl, rfl⟩ := trodAll_nil r0
  obtain rfl : args = #[v0] := by cases args; simp_all
  obtain ⟨rfl, rfl⟩ := trodVars_none hV
  obtain ⟨A, c, l, rfl, hr, hx, hn, hm⟩ := open_ords (hval 0 _ v0 rfl rfl) h0
  have walk := walk W A c l hr hx (Nat.le_trans hn hm)
  clear hA0 hval0
  refine walk.mono fun e W' ⟨he, hf⟩ => ?_
  subst he
  exact ⟨_, rfl, law_post laidOut paramsOk rfl rfl Try.underlying4 hW' rfl rfl rfl hf⟩

theorem said : Rows.SplitOrderSaid :=
  OpenClaim.holds_of_wide 11 Try.f11 rfl rfl rfl rfl rfl rfl rfl ⟨rfl, rfl, rfl, rfl, rfl⟩ rfl rfl rfl rfl rfl (by kernel_rfl) Try.func11 (by kernel_rfl)
    (of_decide_eq_true (by kernel_rfl)) (by unfold Func.isWrapper; first | (rw [if_pos (by decide +kernel)]; kernel_rfl) | (rw [if_neg (by decide +kernel)]; exact ⟨rfl, rfl⟩))
    (fun os started H enc _ => lifted os started H enc)
end Go.Proofs.Ytdgjjkmgdjiliaa.splitOrder
