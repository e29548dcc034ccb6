/- Split's iterator: the pieces of a log for a region, one by one. Conditions: few orders, few marks; a round keeps the memory of before, but for its own blocks, and what is a filter's. -/
import Derived.RangeFuncNested
import Derived.RangeFuncBound
import Derived.RangeFuncCalls
import Derived.RangeFuncLeaves
import Derived.Shelf.Abstract
import Derived.Shelf.RegionOpen
import Derived.WalkKit
import Derived.OwnWalkIn
import Derived.TacticsInMore
import Derived.LoopNIn
import Derived.LoopIn
import Derived.BigGuardIn
import Derived.Test.YtdgjjkmgdjiliaaFst
import Derived.Test.YtdgjjkmgdjiliaaFlt3
namespace Go.Proofs.Ytdgjjkmgdjiliaa
open Go.RowKit Go.Shelf Go.Maps
attribute [local go_sem] Oper.semAt_some

/-- the tags that have counted, of the first n orders of a global log. -/
def gAt (xs : List Od) (n : Nat) : Tg → Bool := fun t => (xs.take n).any fun p => decide (tgOf p = t) && !singleOf p
theorem gAt_next {xs : List Od} {n : Nat} {o : Od} (h : xs[n]? = some o) : (if singleOf o then gAt xs n else addT (gAt xs n) (tgOf o)) = gAt xs (n + 1) := by
  have e : xs.take (n + 1) = xs.take n ++ [o] := by rw [List.take_add_one, h]; rfl
  funext t
  unfold gAt addT
  rw [e, List.any_append]
  cases hs : singleOf o
  · simp [hs, eq_comm, Bool.or_comm]
  · simp [hs]
theorem firstAt_g (xs : List Od) (n : Nat) (o : Od) : firstAt xs n o = (!singleOf o && !gAt xs n (tgOf o)) := by
  unfold firstAt gAt ahead
  rw [List.not_any_eq_all_not]
abbrev Pc := Nat × Od
def takeB (rg : Int) (xs : List Od) (n : Nat) (o : Od) : Bool := firstAt xs n o && (homesOf o.marks).contains rg
/-- the pieces among the first n orders. -/
def pcs (rg : Int) (xs : List Od) : Nat → List Pc
  | 0 => []
  | n + 1 => pcs rg xs n ++ (match xs[n]? with | some o => if takeB rg xs n o then [(n, o)] else [] | none => [])
theorem pcs_yes {rg : Int} {xs : List Od} {n : Nat} {o : Od} (h : xs[n]? = some o) (ht : takeB rg xs n o = true) : pcs rg xs (n + 1) = pcs rg xs n ++ [(n, o)] := by
  rw [pcs, h]
  simp [ht]
theorem pcs_no {rg : Int} {xs : List Od} {n : Nat} {o : Od} (h : xs[n]? = some o) (ht : takeB rg xs n o = false) : pcs rg xs (n + 1) = pcs rg xs n := by
  rw [pcs, h]
  simp [ht]
theorem pcs_pre (rg : Int) (xs : List Od) (k : Nat) : ∀ d, pcs rg xs k <+: pcs rg xs (k + d)
  | 0 => List.prefix_refl _
  | d + 1 => (pcs_pre rg xs k d).trans (by rw [show k + (d + 1) = (k + d) + 1 from rfl, pcs.eq_2]; exact List.prefix_append _ _)
theorem pcs_len (rg : Int) (xs : List Od) : ∀ n, (pcs rg xs n).length ≤ n
  | 0 => Nat.le_refl _
  | n + 1 => by
    have := pcs_len rg xs n
    rw [pcs, List.length_append]
    cases xs[n]? with
    | none => simp; omega
    | some o => cases h : takeB rg xs n o <;> simp [h] <;> omega

/-- what a round keeps: what lay below `base` but for the blocks of E; maps; and every filter. -/
def Held (base : Nat) (E : Nat → Prop) (W : World) (i : Nat) : Prop := (i < base ∧ ¬ E i) ∨ ∃ o, W.heap[i]? = some o ∧ (o.isWalk = true ∨ ∃ cs, o = .cells cs 77 (0, 0))
def KpS (base : Nat) (E : Nat → Prop) (W W' : World) : Prop := Fr (fun i => ¬ Held base E W i) W W'
theorem KpS.t {base : Nat} {E : Nat → Prop} {A B C : World} (h : KpS base E A B) (k : KpS base E B C) : KpS base E A C := by
  refine Fr.step h k fun i hi hc hb => hc ?_
  rcases hb with hb | ⟨o, ho, hk⟩
  · exact .inl hb
  · exact .inr ⟨o, (h.block i hi fun hn => hn (.inr ⟨o, ho, hk⟩)).trans ho, hk⟩
theorem KpS.b {base : Nat} {E : Nat → Prop} {w : World} (hb : base ≤ w.heap.size) (W : World) (l : Nat) (o o' : Obj) (hl : w.heap.size ≤ l) (h : W.heap[l]? = some o) (h1 : o.isCells = false) (h2 : o.isWalk = false) : KpS base E W (W.putObj l o') := by
  refine (Fr.ofGrown (grownBy_putObj' W l o')).mono fun i hi e hn => ?_
  injection e with e
  subst e
  rcases hn with hn | ⟨o2, ho2, hk⟩
  · omega
  · rw [h] at ho2
    injection ho2 with ho2
    subst ho2
    rcases hk with hk | ⟨cs, hk⟩
    · rw [h2] at hk; cases hk
    · subst hk; cases h1
theorem Fl.kept {base : Nat} {E : Nat → Prop} {W W' : World} {B g bm s : Nat} {rg la : Int} {m : Tg → Bool} (h : Fl W B g bm s rg la m) (hk : KpS base E W W') : Fl W' B g bm s rg la m := by
  refine h.fr hk (fun hn => hn (.inr ⟨_, h.bk, .inr ⟨_, rfl⟩⟩)) (fun hn => hn ?_)
  obtain ⟨es, clock, hb⟩ := h.mp.blk
  exact .inr ⟨_, hb, .inl rfl⟩
theorem grown_of {C : Nat → Prop} {w w' : World} (h : Fr C w w') (row : Option Nat) (hc : ∀ i, i < w.heap.size → C i → some i = row) : w.grownBy w' row :=
  ⟨h.os, h.tape, h.output, h.size, fun k hk hn => h.block k hk fun e => hn (hc k hk e)⟩
/-- a piece of a log. -/
abbrev PcX (xs : List Od) := { p : Pc // xs[p.1]? = some p.2 }
def encP {xs : List Od} (p : PcX xs) : Array Value := #[imv ⟨2, p.1.1, p.1.2⟩]

set_option maxRecDepth 100000 in
theorem pieces_any (w : World) (A : Option Addr) (n c : Nat) (rg : Int) :
    Calls Try.prog 53 #[.slice A n c, .int .i64 rg] w fun e w' => e = .returned (.func (.func 65) #[] #[.pointer (some ⟨w.heap.size, 0, none⟩), .pointer (some ⟨w.heap.size + 1, 0, none⟩)]) ∧ w' = (w.alloc (.cells #[.slice A n c] 47)).alloc (.cells #[.int .i64 rg] 3) := by
  go_enter Try.func53, Try.ntmps53
  go_wp2_with fail
  go_ret
  exact ⟨by simp, rfl⟩

set_option maxRecDepth 100000 in
set_option maxHeartbeats 2000000 in
theorem pieces1_in (n b1 b2 : Nat) (hn : 1 ≤ n) (E : Nat → Prop) (rg : Int) (A : Option Addr) (c : Nat) (xs : List Od) (we w0 : World) (hwe : Fr NoBlk we w0) (hE : ∀ i, E i → we.heap.size ≤ i) (hr : Rd we A (odsc xs)) (hx : ∀ o ∈ xs, OdIn we o ∧ o.marks.length ≤ 1000 ∧ TgOk (tgOf o)) (hl : xs.length ≤ 40)
    (hb1 : Bk w0 b1 47 #[.slice A xs.length c]) (hb2 : Bk w0 b2 3 #[.int .i64 rg]) (hb2E : ¬ E b2) :
    SeqStopsK Fence.wide n Try.prog 65 #[.pointer (some ⟨b1, 0, none⟩), .pointer (some ⟨b2, 0, none⟩)] (encP (xs := xs)) (KpS w0.heap.size E) (fun ys => ys.map (·.1) = pcs rg xs xs.length) (fun ys => ys.map (·.1) <+: pcs rg xs xs.length) 40 w0 := by
  intro l J Jx W hBW hAJ hAJx hY h0
  have HY := Lib.hid hY
  have HAJ := Lib.hid hAJ
  have HX := Lib.hid hx
  have HR := Lib.hid hr
  have HWE := Lib.hid hwe
  have HE := Lib.hid hE
  have hf0 := Fr.ofBelow hBW
  have HF0 := Lib.hid hf0
  have HP : Hid (∀ V, Fr (fun i => w0.heap.size ≤ i ∨ E i) w0 V → Fr NoBlk we V ∧ V.cell? ⟨b2, 0, none⟩ = some (.int .i64 rg)) := fun V hV => by
    refine ⟨hwe.step hV fun i hi e => ?_, (hb2.fr hV fun e => ?_).cell 0⟩
    · rcases e with e | e
      · have := hwe.size; omega
      · have := hE i e; omega
    · rcases e with e | e
      · have := hb2.lt; omega
      · exact hb2E e
  have HC1 : Hid (∀ V, Fr NoBlk w0 V → V.cell? ⟨b1, 0, none⟩ = some (.slice A xs.length c)) := fun V hV => (hb1.fr hV fun e => e).cell 0
  have h0' := Lib.hid h0
  have HZ : Hid (w0.heap.size ≤ W.heap.size) := hf0.size
  clear hY hAJ hAJx hx hr hwe hE hf0 hb1 hb2 h0 hBW
  refine callsIn_of_wp Try.func65 rfl trivial ?_ rfl
  simp only [Try.ntmps65, List.size_toArray, List.length_cons, List.length_nil, Nat.reduceAdd, Nat.reduceSub, Array.replicate_succ, Array.replicate_zero, List.push_toArray, List.append_toArray, List.nil_append, List.cons_append]
  gi_wp2
  refine ⟨trivial, (callsIn_wide.2 (fglobal_any W)).mono ?_⟩
  rintro e w1 ⟨g, bm, rfl, hfl, hf1⟩
  obtain ⟨B, hB⟩ : ∃ B, B = W.heap.size := ⟨_, rfl⟩
  rw [← hB] at hfl
  have HB := Lib.hid hB
  have HFL := Lib.hid hfl
  have HJ1 : Hid (J [] w1) := HAJ.out [] W w1 none h0'.out (grown_of hf1 none fun i _ e => e.elim) (fun r e => by cases e)
  have HF1 := Lib.hid (HF0.out.trans hf1)
  have c1 : w1.cell? ⟨b1, 0, none⟩ = some (.slice A xs.length c) := HC1.out _ HF1.out
  clear hf1 hB hfl h0'
  gi_wp2
  gi_loopw [10] (fun z wr => ∃ (k s : Nat) (pre : List (PcX xs)), k ≤ xs.length ∧ z = .int .i64 k ∧ s ≤ k ∧ Hid (pre.map (·.1) = pcs rg xs k) ∧ Hid (J pre wr) ∧ Hid (Fl wr B g bm s (-1) (-1) (gAt xs k)) ∧ Hid (Fr (fun i => w0.heap.size ≤ i ∨ E i) w0 wr)) (fun z _ => xs.length - (intOf z).toNat)
  case atStart =>
    refine ⟨0, 0, [], by omega, rfl, Nat.le_refl _, rfl, HJ1, ?_, HF1.out.mono fun _ _ e => e.elim⟩
    have e : gAt xs 0 = fun _ => false := by funext t; rfl
    show Fl _ _ _ _ _ _ _ _
    rw [e]
    exact HFL.out
  case round =>
    obtain ⟨k, s, pre, hk, rfl, hs, HPR, HJ, HFR, HFP⟩ := hrel
    clear HFL HJ1 c1
    by_cases hlt : k < xs.length
    · obtain ⟨o, ho⟩ : ∃ o, xs[k]? = some o := ⟨_, List.getElem?_eq_getElem hlt⟩
      obtain ⟨ho1, ho2, ho3⟩ := HX.out o (List.mem_of_getElem? ho)
      obtain ⟨Bx, O, hA, hc⟩ := (HR.out.nofr (HP.out _ HFP.out).1).ord ho
      have c0 : wr.cell? ⟨Bx, O + k * 10, none⟩ = some (.int .i64 o.node) := hc 0 _ rfl
      have c1 : wr.cell? ⟨Bx, O + k * 10 + 1, none⟩ = some (.int .u64 (o.epoch : Int)) := hc 1 _ rfl
      have c2 : wr.cell? ⟨Bx, O + k * 10 + 2, none⟩ = some (.int .u64 (o.seq : Int)) := hc 2 _ rfl
      have c3 : wr.cell? ⟨Bx, O + k * 10 + 3, none⟩ = some (.int .i64 o.tr) := hc 3 _ rfl
      have c4 : wr.cell? ⟨Bx, O + k * 10 + 4, none⟩ = some (.int .i64 o.t.kind) := hc 4 _ rfl
      have c5 : wr.cell? ⟨Bx, O + k * 10 + 5, none⟩ = some (.slice o.t.ra o.t.reads.length o.t.rc) := hc 5 _ rfl
      have c6 : wr.cell? ⟨Bx, O + k * 10 + 6, none⟩ = some (.slice o.t.wa o.t.writes.length o.t.wc) := hc 6 _ rfl
      have c7 : wr.cell? ⟨Bx, O + k * 10 + 7, none⟩ = some (.slice o.t.oa o.t.ops.length o.t.oc) := hc 7 _ rfl
      have c8 : wr.cell? ⟨Bx, O + k * 10 + 8, none⟩ = some (.int .i64 o.t.to) := hc 8 _ rfl
      have c9 : wr.cell? ⟨Bx, O + k * 10 + 9, none⟩ = some (.slice o.ma o.marks.length o.mc) := hc 9 _ rfl
      have i1 : (0 : Int) ≤ (k : Int) := by omega
      have i2 : (k : Int) < (xs.length : Int) := by omega
      obtain ⟨q, hq⟩ : ∃ q, q = wr.heap.size := ⟨_, rfl⟩
      obtain ⟨w2, hw2⟩ : ∃ w2, w2 = wr.alloc (.cells (oda o) 38) := ⟨_, rfl⟩
      have hf2 : Fr NoBlk wr w2 := by rw [hw2]; exact (Fr.refl _ _).alloc _
      have hb2 : Bk w2 q 38 (oda o) := by rw [hw2, hq]; exact Bk.new _ _ _
      have HW2 := Lib.hid hw2
      have HQ : Hid (bm < q ∧ g < q ∧ q = wr.heap.size) := ⟨by have := HFR.out.mp.lt; omega, by have := HFR.out.bk.lt; omega, hq⟩
      have HBW : Hid (W.heap.size ≤ bm) := by show _ ≤ _; have := HFR.out.b2; have := HB.out; omega
      have HFP2 : Hid (∀ V, Fr (fun b => b = bm) w2 V → Fr (fun i => w0.heap.size ≤ i ∨ E i) w0 V) := fun V hV => (HFP.out.trans (hf2.mono fun _ _ e => e.elim)).step hV fun i hi e => by have := HZ.out; have := HBW.out; left; omega
      have HSD : Hid (∀ V, Fr (fun b => b = bm) w2 V → Bk V q 38 #[.int .i64 o.node, .int .u64 (o.epoch : Int), .int .u64 (o.seq : Int), .int .i64 o.tr, .int .i64 o.t.kind, .slice o.t.ra o.t.reads.length o.t.rc, .slice o.t.wa o.t.writes.length o.t.wc, .slice o.t.oa o.t.ops.length o.t.oc, .int .i64 o.t.to, .slice o.ma o.marks.length o.mc] ∧ V.cell? ⟨b2, 0, none⟩ = some (.int .i64 rg)) := fun V hV => ⟨hb2.fr hV fun e => by have := HQ.out; omega, (HP.out _ (HFP2.out V hV)).2⟩
      obtain ⟨fb, hfb⟩ : ∃ fb, fb = firstAt xs k o := ⟨_, rfl⟩
      obtain ⟨hr, hhr⟩ : ∃ hr, hr = (homesOf o.marks).contains rg := ⟨_, rfl⟩
      have HHR := Lib.hid hhr
      have HFB := Lib.hid hfb
      have HHL := Lib.hid (homesOf_len o.marks ho2)
      have HOI : Hid (∀ V, Fr (fun b => b = bm) w2 V → OdIn V o) := fun V hV => ho1.nofr (HP.out _ (HFP2.out V hV)).1
      have HHM : Hid (∀ V, Fr (fun b => b = bm) w2 V → Calls Try.prog 42 #[odv o] V (IntsPost V (homesOf o.marks))) := fun V hV => homes_any V o (HOI.out V hV) ho2
      have HOR : Hid (Calls Try.prog 22 #[.pointer (some ⟨g, 0, none⟩), odv o] w2.drew fun e w3 => e = .returned (.bool fb) ∧ (∃ s', s' ≤ s + 1 ∧ Fl w3 B g bm s' (-1) (-1) (gAt xs (k + 1))) ∧ Fr (fun b => b = bm) w2.drew w3) := by
        show Calls _ _ _ _ _
        have hh := forder_any w2.drew B g bm s (-1) (-1) (gAt xs k) ((HFR.out.nofr hf2).nofr (Fr.refl _ _).drew) (by omega) o (HOI.out _ (Fr.refl _ _).drew) ho2 ho3
        unfold OrdPost at hh
        rw [gAt_next ho, ← firstAt_g, ← hfb] at hh
        exact hh
      have HJ2 : Hid (∀ V, Fr (fun b => b = bm) w2 V → J pre V) := fun V hV => by
        obtain ⟨es, clock, hmb⟩ := (HFR.out.nofr hf2).mp.blk
        exact HAJ.out _ w2 V (some bm) (HAJ.out _ wr w2 none HJ.out (grown_of hf2 none fun i _ e => e.elim) (fun r e => by cases e)) (grown_of hV (some bm) fun i _ e => by rw [e]) (fun r e => by injection e with e; subst e; exact ⟨HBW.out, _, hmb, rfl⟩)
      have HSL := Lib.hid hs
      have HO := Lib.hid ho
      subst hA
      clear hc ho ho1 ho2 ho3 hw2 hq hf2 hb2 hs hfb hhr HFR HJ
      unfold oda at HW2
      unfold odv oda at HHM HOR
      gi_wp2
      rw [← HW2.out, ← HQ.out.2.2]
      clear HW2 c0 c1 c2 c3 c4 c5 c6 c7 c8 c9
      refine wpIn_wide.2 ?_
      refine wp_region_held_drew (S := fun w' => Bk w' q 38 #[.int .i64 o.node, .int .u64 (o.epoch : Int), .int .u64 (o.seq : Int), .int .i64 o.tr, .int .i64 o.t.kind, .slice o.t.ra o.t.reads.length o.t.rc, .slice o.t.wa o.t.writes.length o.t.wc, .slice o.t.oa o.t.ops.length o.t.oc, .int .i64 o.t.to, .slice o.ma o.marks.length o.mc] ∧ w'.cell? ⟨b2, 0, none⟩ = some (.int .i64 rg)) (by kernel_rfl) (HSD.out _ (Fr.refl _ _).drew) (fun hHeld => ?_)
      cases fb with
      | false =>
        have HNX := Lib.hid (pcs_no HO.out (show takeB rg xs k o = false by unfold takeB; rw [← HFB.out]; rfl))
        refine wpAnyH_take (i := 0) (oi := ⟨some 15, _, _, _, _, _⟩) (v := ?_) rfl (by kernel_rfl) (by kernel_rfl) (by kernel_rfl) (fun _ _ _ h => h) (Or.inl ⟨by rfl, ?_⟩) (by assumption) ?_
        rotate_left 1
        · (intro w hSw; (try dsimp only at hSw); obtain ⟨hB, hC⟩ := hSw; have k0 := hB.cell 0; have k1 := hB.cell 1; have k2 := hB.cell 2; have k3 := hB.cell 3; have k4 := hB.cell 4; have k5 := hB.cell 5; have k6 := hB.cell 6; have k7 := hB.cell 7; have k8 := hB.cell 8; have k9 := hB.cell 9; clear hB; simp only [List.getElem?_toArray, List.getElem?_cons_succ, List.getElem?_cons_zero] at k0 k1 k2 k3 k4 k5 k6 k7 k8 k9; go_simp) <;> (with_reducible rfl)
        try simp only [Act.put, List.setIfInBounds_toArray, List.set_cons_zero, List.set_cons_succ]
        refine wpAnyH_take (i := 1) (oi := ⟨some 16, _, _, _, _, _⟩) (v := ?_) rfl (by kernel_rfl) (by kernel_rfl) (by kernel_rfl) (fun _ _ _ h => h) (Or.inl ⟨by rfl, ?_⟩) (by assumption) ?_
        rotate_left 1
        · (intro w hSw; (try dsimp only at hSw); obtain ⟨hB, hC⟩ := hSw; have k0 := hB.cell 0; have k1 := hB.cell 1; have k2 := hB.cell 2; have k3 := hB.cell 3; have k4 := hB.cell 4; have k5 := hB.cell 5; have k6 := hB.cell 6; have k7 := hB.cell 7; have k8 := hB.cell 8; have k9 := hB.cell 9; clear hB; simp only [List.getElem?_toArray, List.getElem?_cons_succ, List.getElem?_cons_zero] at k0 k1 k2 k3 k4 k5 k6 k7 k8 k9; go_simp) <;> (with_reducible rfl)
        try simp only [Act.put, List.setIfInBounds_toArray, List.set_cons_zero, List.set_cons_succ]
        refine wpAnyH_ready (rs := [2]) (by kernel_rfl) (by simp) ?_
        refine AllReadyH.cons (o := ⟨some 17, _, _, _, _, _⟩) rfl (fun K hK => ?_) AllReadyH.nil
        go_simp
        go_at_call 22
        refine HOR.out.mono ?_
        clear HOR hHeld
        rintro e w3 ⟨he, ⟨s', hs', h3⟩, hf3⟩
        obtain rfl : e = .returned (.bool false) := he
        have HF3 : Hid (Fr (fun b => b = bm) w2 w3) := (Fr.refl _ _).drew.trans hf3
        have H3 := Lib.hid (And.intro hs' h3)
        clear hs' h3 hf3
        refine hK.out _ _ ?_ (fun hHeld => ?_)
        · exact HSD.out _ HF3.out
        clear hK K
        try simp only [Act.put, List.setIfInBounds_toArray, List.set_cons_zero, List.set_cons_succ]
        refine wpAnyH_take (i := 3) (oi := ⟨some 18, _, _, _, _, _⟩) (v := ?_) rfl (by kernel_rfl) (by kernel_rfl) (by kernel_rfl) (fun _ _ _ h => h) (Or.inl ⟨by rfl, ?_⟩) (by assumption) ?_
        rotate_left 1
        · (intro w hSw; (try dsimp only at hSw); obtain ⟨hB, hC⟩ := hSw; have k0 := hB.cell 0; have k1 := hB.cell 1; have k2 := hB.cell 2; have k3 := hB.cell 3; have k4 := hB.cell 4; have k5 := hB.cell 5; have k6 := hB.cell 6; have k7 := hB.cell 7; have k8 := hB.cell 8; have k9 := hB.cell 9; clear hB; simp only [List.getElem?_toArray, List.getElem?_cons_succ, List.getElem?_cons_zero] at k0 k1 k2 k3 k4 k5 k6 k7 k8 k9; go_simp) <;> (with_reducible rfl)
        try simp only [Act.put, List.setIfInBounds_toArray, List.set_cons_zero, List.set_cons_succ]
        refine wpAnyH_take (i := 4) (oi := ⟨some 19, _, _, _, _, _⟩) (v := ?_) rfl (by kernel_rfl) (by kernel_rfl) (by kernel_rfl) (fun _ _ _ h => h) (Or.inl ⟨by rfl, ?_⟩) (by assumption) ?_
        rotate_left 1
        · (intro w hSw; (try dsimp only at hSw); obtain ⟨hB, hC⟩ := hSw; have k0 := hB.cell 0; have k1 := hB.cell 1; have k2 := hB.cell 2; have k3 := hB.cell 3; have k4 := hB.cell 4; have k5 := hB.cell 5; have k6 := hB.cell 6; have k7 := hB.cell 7; have k8 := hB.cell 8; have k9 := hB.cell 9; clear hB; simp only [List.getElem?_toArray, List.getElem?_cons_succ, List.getElem?_cons_zero] at k0 k1 k2 k3 k4 k5 k6 k7 k8 k9; go_simp) <;> (with_reducible rfl)
        try simp only [Act.put, List.setIfInBounds_toArray, List.set_cons_zero, List.set_cons_succ]
        refine wpAnyH_take (i := 5) (oi := ⟨some 20, _, _, _, _, _⟩) (v := undef) rfl (by kernel_rfl) (by kernel_rfl) (by kernel_rfl) (fun _ _ _ h => h) (Or.inr ⟨by rfl, rfl⟩) (by assumption) ?_
        try simp only [Act.put, List.setIfInBounds_toArray, List.set_cons_zero, List.set_cons_succ]
        refine wpAnyH_take (i := 6) (oi := ⟨some 21, _, _, _, _, _⟩) (v := undef) rfl (by kernel_rfl) (by kernel_rfl) (by kernel_rfl) (fun _ _ _ h => h) (Or.inr ⟨by rfl, rfl⟩) (by assumption) ?_
        try simp only [Act.put, List.setIfInBounds_toArray, List.set_cons_zero, List.set_cons_succ]
        refine wpAnyH_take (i := 7) (oi := ⟨some 22, _, _, _, _, _⟩) (v := undef) rfl (by kernel_rfl) (by kernel_rfl) (by kernel_rfl) (fun _ _ _ h => h) (Or.inr ⟨by rfl, rfl⟩) (by assumption) ?_
        try simp only [Act.put, List.setIfInBounds_toArray, List.set_cons_zero, List.set_cons_succ]
        refine wpAnyH_take (i := 8) (oi := ⟨some 23, _, _, _, _, _⟩) (v := undef) rfl (by kernel_rfl) (by kernel_rfl) (by kernel_rfl) (fun _ _ _ h => h) (Or.inr ⟨by rfl, rfl⟩) (by assumption) ?_
        try simp only [Act.put, List.setIfInBounds_toArray, List.set_cons_zero, List.set_cons_succ]
        refine wpAnyH_take (i := 9) (oi := ⟨some 24, _, _, _, _, _⟩) (v := undef) rfl (by kernel_rfl) (by kernel_rfl) (by kernel_rfl) (fun _ _ _ h => h) (Or.inr ⟨by rfl, rfl⟩) (by assumption) ?_
        try simp only [Act.put, List.setIfInBounds_toArray, List.set_cons_zero, List.set_cons_succ]
        refine wpAnyH_take (i := 10) (oi := ⟨some 25, _, _, _, _, _⟩) (v := ?_) rfl (by kernel_rfl) (by kernel_rfl) (by kernel_rfl) (fun _ _ _ h => h) (Or.inl ⟨by rfl, ?_⟩) (by assumption) ?_
        rotate_left 1
        · (intro w hSw; (try dsimp only at hSw); obtain ⟨hB, hC⟩ := hSw; have k0 := hB.cell 0; have k1 := hB.cell 1; have k2 := hB.cell 2; have k3 := hB.cell 3; have k4 := hB.cell 4; have k5 := hB.cell 5; have k6 := hB.cell 6; have k7 := hB.cell 7; have k8 := hB.cell 8; have k9 := hB.cell 9; clear hB; simp only [List.getElem?_toArray, List.getElem?_cons_succ, List.getElem?_cons_zero] at k0 k1 k2 k3 k4 k5 k6 k7 k8 k9; go_simp) <;> (with_reducible rfl)
        try simp only [Act.put, List.setIfInBounds_toArray, List.set_cons_zero, List.set_cons_succ]
        refine wpAnyH_done (by kernel_rfl) ?_ _
        gi_wp2
        go_roundw
        case rel => exact ⟨k + 1, s', pre, by omega, by go_num, Nat.le_trans H3.out.1 (Nat.succ_le_succ HSL.out), by rw [HNX.out]; exact HPR, HJ2.out _ HF3.out, H3.out.2, HFP2.out _ HF3.out⟩
        case measure => simp [intOf]; omega
      | true =>
        cases hr with
        | false =>
          have HNX := Lib.hid (pcs_no HO.out (show takeB rg xs k o = false by unfold takeB; rw [← HFB.out, ← HHR.out]; rfl))
          refine wpAnyH_take (i := 0) (oi := ⟨some 15, _, _, _, _, _⟩) (v := ?_) rfl (by kernel_rfl) (by kernel_rfl) (by kernel_rfl) (fun _ _ _ h => h) (Or.inl ⟨by rfl, ?_⟩) (by assumption) ?_
          rotate_left 1
          · (intro w hSw; (try dsimp only at hSw); obtain ⟨hB, hC⟩ := hSw; have k0 := hB.cell 0; have k1 := hB.cell 1; have k2 := hB.cell 2; have k3 := hB.cell 3; have k4 := hB.cell 4; have k5 := hB.cell 5; have k6 := hB.cell 6; have k7 := hB.cell 7; have k8 := hB.cell 8; have k9 := hB.cell 9; clear hB; simp only [List.getElem?_toArray, List.getElem?_cons_succ, List.getElem?_cons_zero] at k0 k1 k2 k3 k4 k5 k6 k7 k8 k9; go_simp) <;> (with_reducible rfl)
          try simp only [Act.put, List.setIfInBounds_toArray, List.set_cons_zero, List.set_cons_succ]
          refine wpAnyH_take (i := 1) (oi := ⟨some 16, _, _, _, _, _⟩) (v := ?_) rfl (by kernel_rfl) (by kernel_rfl) (by kernel_rfl) (fun _ _ _ h => h) (Or.inl ⟨by rfl, ?_⟩) (by assumption) ?_
          rotate_left 1
          · (intro w hSw; (try dsimp only at hSw); obtain ⟨hB, hC⟩ := hSw; have k0 := hB.cell 0; have k1 := hB.cell 1; have k2 := hB.cell 2; have k3 := hB.cell 3; have k4 := hB.cell 4; have k5 := hB.cell 5; have k6 := hB.cell 6; have k7 := hB.cell 7; have k8 := hB.cell 8; have k9 := hB.cell 9; clear hB; simp only [List.getElem?_toArray, List.getElem?_cons_succ, List.getElem?_cons_zero] at k0 k1 k2 k3 k4 k5 k6 k7 k8 k9; go_simp) <;> (with_reducible rfl)
          try simp only [Act.put, List.setIfInBounds_toArray, List.set_cons_zero, List.set_cons_succ]
          refine wpAnyH_ready (rs := [2]) (by kernel_rfl) (by simp) ?_
          refine AllReadyH.cons (o := ⟨some 17, _, _, _, _, _⟩) rfl (fun K hK => ?_) AllReadyH.nil
          go_simp
          go_at_call 22
          refine HOR.out.mono ?_
          clear HOR hHeld
          rintro e w3 ⟨he, ⟨s', hs', h3⟩, hf3⟩
          obtain rfl : e = .returned (.bool true) := he
          have HF3 : Hid (Fr (fun b => b = bm) w2 w3) := (Fr.refl _ _).drew.trans hf3
          have H3 := Lib.hid (And.intro hs' h3)
          clear hs' h3 hf3
          refine hK.out _ _ ?_ (fun hHeld => ?_)
          · exact HSD.out _ HF3.out
          clear hK K
          try simp only [Act.put, List.setIfInBounds_toArray, List.set_cons_zero, List.set_cons_succ]
          refine wpAnyH_take (i := 3) (oi := ⟨some 18, _, _, _, _, _⟩) (v := ?_) rfl (by kernel_rfl) (by kernel_rfl) (by kernel_rfl) (fun _ _ _ h => h) (Or.inl ⟨by rfl, ?_⟩) (by assumption) ?_
          rotate_left 1
          · (intro w hSw; (try dsimp only at hSw); obtain ⟨hB, hC⟩ := hSw; have k0 := hB.cell 0; have k1 := hB.cell 1; have k2 := hB.cell 2; have k3 := hB.cell 3; have k4 := hB.cell 4; have k5 := hB.cell 5; have k6 := hB.cell 6; have k7 := hB.cell 7; have k8 := hB.cell 8; have k9 := hB.cell 9; clear hB; simp only [List.getElem?_toArray, List.getElem?_cons_succ, List.getElem?_cons_zero] at k0 k1 k2 k3 k4 k5 k6 k7 k8 k9; go_simp) <;> (with_reducible rfl)
          try simp only [Act.put, List.setIfInBounds_toArray, List.set_cons_zero, List.set_cons_succ]
          refine wpAnyH_take (i := 4) (oi := ⟨some 19, _, _, _, _, _⟩) (v := ?_) rfl (by kernel_rfl) (by kernel_rfl) (by kernel_rfl) (fun _ _ _ h => h) (Or.inl ⟨by rfl, ?_⟩) (by assumption) ?_
          rotate_left 1
          · (intro w hSw; (try dsimp only at hSw); obtain ⟨hB, hC⟩ := hSw; have k0 := hB.cell 0; have k1 := hB.cell 1; have k2 := hB.cell 2; have k3 := hB.cell 3; have k4 := hB.cell 4; have k5 := hB.cell 5; have k6 := hB.cell 6; have k7 := hB.cell 7; have k8 := hB.cell 8; have k9 := hB.cell 9; clear hB; simp only [List.getElem?_toArray, List.getElem?_cons_succ, List.getElem?_cons_zero] at k0 k1 k2 k3 k4 k5 k6 k7 k8 k9; go_simp) <;> (with_reducible rfl)
          try simp only [Act.put, List.setIfInBounds_toArray, List.set_cons_zero, List.set_cons_succ]
          refine wpAnyH_take (i := 5) (oi := ⟨some 20, _, _, _, _, _⟩) (v := ?_) rfl (by kernel_rfl) (by kernel_rfl) (by kernel_rfl) (fun _ _ _ h => h) (Or.inl ⟨by rfl, ?_⟩) (by assumption) ?_
          rotate_left 1
          · (intro w hSw; (try dsimp only at hSw); obtain ⟨hB, hC⟩ := hSw; have k0 := hB.cell 0; have k1 := hB.cell 1; have k2 := hB.cell 2; have k3 := hB.cell 3; have k4 := hB.cell 4; have k5 := hB.cell 5; have k6 := hB.cell 6; have k7 := hB.cell 7; have k8 := hB.cell 8; have k9 := hB.cell 9; clear hB; simp only [List.getElem?_toArray, List.getElem?_cons_succ, List.getElem?_cons_zero] at k0 k1 k2 k3 k4 k5 k6 k7 k8 k9; go_simp) <;> (with_reducible rfl)
          try simp only [Act.put, List.setIfInBounds_toArray, List.set_cons_zero, List.set_cons_succ]
          refine wpAnyH_take (i := 7) (oi := ⟨some 22, _, _, _, _, _⟩) (v := ?_) rfl (by kernel_rfl) (by kernel_rfl) (by kernel_rfl) (fun _ _ _ h => h) (Or.inl ⟨by rfl, ?_⟩) (by assumption) ?_
          rotate_left 1
          · (intro w hSw; (try dsimp only at hSw); obtain ⟨hB, hC⟩ := hSw; have k0 := hB.cell 0; have k1 := hB.cell 1; have k2 := hB.cell 2; have k3 := hB.cell 3; have k4 := hB.cell 4; have k5 := hB.cell 5; have k6 := hB.cell 6; have k7 := hB.cell 7; have k8 := hB.cell 8; have k9 := hB.cell 9; clear hB; simp only [List.getElem?_toArray, List.getElem?_cons_succ, List.getElem?_cons_zero] at k0 k1 k2 k3 k4 k5 k6 k7 k8 k9; go_simp) <;> (with_reducible rfl)
          try simp only [Act.put, List.setIfInBounds_toArray, List.set_cons_zero, List.set_cons_succ]
          refine wpAnyH_ready (rs := [6]) (by kernel_rfl) (by simp) ?_
          refine AllReadyH.cons (o := ⟨some 21, _, _, _, _, _⟩) rfl (fun K hK => ?_) AllReadyH.nil
          go_simp
          go_at_call 42
          refine (HHM.out _ HF3.out).mono ?_
          clear hHeld
          rintro e w4 ⟨A2, c2, rfl, hh⟩
          have HF4 : Hid (Fr (fun b => b = bm) w2 w4) := HF3.out.trans (hh.fr.mono fun _ _ e => e.elim)
          have H4 : Hid (∃ s', s' ≤ s + 1 ∧ Fl w4 B g bm s' (-1) (-1) (gAt xs (k + 1))) := ⟨_, H3.out.1, H3.out.2.nofr hh.fr⟩
          have HCT := Lib.hid (contains_any w4 A2 c2 (homesOf o.marks) hh.rd HHL.out rg)
          clear hh H3
          refine hK.out _ _ ?_ (fun hHeld => ?_)
          · exact HSD.out _ HF4.out
          clear hK K
          try simp only [Act.put, List.setIfInBounds_toArray, List.set_cons_zero, List.set_cons_succ]
          refine wpAnyH_ready (rs := [8]) (by kernel_rfl) (by simp) ?_
          refine AllReadyH.cons (o := ⟨some 23, _, _, _, _, _⟩) rfl (fun K hK => ?_) AllReadyH.nil
          go_simp
          go_at_call 41
          refine HCT.out.mono ?_
          rintro e _ ⟨hb, rfl, hhb, rfl⟩
          rw [← HHR.out] at hhb
          obtain rfl : hb = false := hhb.out
          clear hhb HCT hHeld
          refine hK.out _ _ ?_ (fun hHeld => ?_)
          · exact HSD.out _ HF4.out
          clear hK K
          try simp only [Act.put, List.setIfInBounds_toArray, List.set_cons_zero, List.set_cons_succ]
          refine wpAnyH_take (i := 9) (oi := ⟨some 24, _, _, _, _, _⟩) (v := ?_) rfl (by kernel_rfl) (by kernel_rfl) (by kernel_rfl) (fun _ _ _ h => h) (Or.inl ⟨by rfl, ?_⟩) (by assumption) ?_
          rotate_left 1
          · (intro w hSw; (try dsimp only at hSw); obtain ⟨hB, hC⟩ := hSw; have k0 := hB.cell 0; have k1 := hB.cell 1; have k2 := hB.cell 2; have k3 := hB.cell 3; have k4 := hB.cell 4; have k5 := hB.cell 5; have k6 := hB.cell 6; have k7 := hB.cell 7; have k8 := hB.cell 8; have k9 := hB.cell 9; clear hB; simp only [List.getElem?_toArray, List.getElem?_cons_succ, List.getElem?_cons_zero] at k0 k1 k2 k3 k4 k5 k6 k7 k8 k9; go_simp) <;> (with_reducible rfl)
          try simp only [Act.put, List.setIfInBounds_toArray, List.set_cons_zero, List.set_cons_succ]
          refine wpAnyH_take (i := 10) (oi := ⟨some 25, _, _, _, _, _⟩) (v := ?_) rfl (by kernel_rfl) (by kernel_rfl) (by kernel_rfl) (fun _ _ _ h => h) (Or.inl ⟨by rfl, ?_⟩) (by assumption) ?_
          rotate_left 1
          · (intro w hSw; (try dsimp only at hSw); obtain ⟨hB, hC⟩ := hSw; have k0 := hB.cell 0; have k1 := hB.cell 1; have k2 := hB.cell 2; have k3 := hB.cell 3; have k4 := hB.cell 4; have k5 := hB.cell 5; have k6 := hB.cell 6; have k7 := hB.cell 7; have k8 := hB.cell 8; have k9 := hB.cell 9; clear hB; simp only [List.getElem?_toArray, List.getElem?_cons_succ, List.getElem?_cons_zero] at k0 k1 k2 k3 k4 k5 k6 k7 k8 k9; go_simp) <;> (with_reducible rfl)
          try simp only [Act.put, List.setIfInBounds_toArray, List.set_cons_zero, List.set_cons_succ]
          refine wpAnyH_done (by kernel_rfl) ?_ _
          gi_wp2
          go_roundw
          case rel =>
            obtain ⟨s', hs', h⟩ := H4.out
            exact ⟨k + 1, s', pre, by omega, by go_num, Nat.le_trans hs' (Nat.succ_le_succ HSL.out), by rw [HNX.out]; exact HPR, HJ2.out _ HF4.out, h, HFP2.out _ HF4.out⟩
          case measure => simp [intOf]; omega
        | true =>
          have HNX := Lib.hid (pcs_yes HO.out (show takeB rg xs k o = true by unfold takeB; rw [← HFB.out, ← HHR.out]; rfl))
          refine wpAnyH_take (i := 0) (oi := ⟨some 15, _, _, _, _, _⟩) (v := ?_) rfl (by kernel_rfl) (by kernel_rfl) (by kernel_rfl) (fun _ _ _ h => h) (Or.inl ⟨by rfl, ?_⟩) (by assumption) ?_
          rotate_left 1
          · (intro w hSw; (try dsimp only at hSw); obtain ⟨hB, hC⟩ := hSw; have k0 := hB.cell 0; have k1 := hB.cell 1; have k2 := hB.cell 2; have k3 := hB.cell 3; have k4 := hB.cell 4; have k5 := hB.cell 5; have k6 := hB.cell 6; have k7 := hB.cell 7; have k8 := hB.cell 8; have k9 := hB.cell 9; clear hB; simp only [List.getElem?_toArray, List.getElem?_cons_succ, List.getElem?_cons_zero] at k0 k1 k2 k3 k4 k5 k6 k7 k8 k9; go_simp) <;> (with_reducible rfl)
          try simp only [Act.put, List.setIfInBounds_toArray, List.set_cons_zero, List.set_cons_succ]
          refine wpAnyH_take (i := 1) (oi := ⟨some 16, _, _, _, _, _⟩) (v := ?_) rfl (by kernel_rfl) (by kernel_rfl) (by kernel_rfl) (fun _ _ _ h => h) (Or.inl ⟨by rfl, ?_⟩) (by assumption) ?_
          rotate_left 1
          · (intro w hSw; (try dsimp only at hSw); obtain ⟨hB, hC⟩ := hSw; have k0 := hB.cell 0; have k1 := hB.cell 1; have k2 := hB.cell 2; have k3 := hB.cell 3; have k4 := hB.cell 4; have k5 := hB.cell 5; have k6 := hB.cell 6; have k7 := hB.cell 7; have k8 := hB.cell 8; have k9 := hB.cell 9; clear hB; simp only [List.getElem?_toArray, List.getElem?_cons_succ, List.getElem?_cons_zero] at k0 k1 k2 k3 k4 k5 k6 k7 k8 k9; go_simp) <;> (with_reducible rfl)
          try simp only [Act.put, List.setIfInBounds_toArray, List.set_cons_zero, List.set_cons_succ]
          refine wpAnyH_ready (rs := [2]) (by kernel_rfl) (by simp) ?_
          refine AllReadyH.cons (o := ⟨some 17, _, _, _, _, _⟩) rfl (fun K hK => ?_) AllReadyH.nil
          go_simp
          go_at_call 22
          refine HOR.out.mono ?_
          clear HOR hHeld
          rintro e w3 ⟨he, ⟨s', hs', h3⟩, hf3⟩
          obtain rfl : e = .returned (.bool true) := he
          have HF3 : Hid (Fr (fun b => b = bm) w2 w3) := (Fr.refl _ _).drew.trans hf3
          have H3 := Lib.hid (And.intro hs' h3)
          clear hs' h3 hf3
          refine hK.out _ _ ?_ (fun hHeld => ?_)
          · exact HSD.out _ HF3.out
          clear hK K
          try simp only [Act.put, List.setIfInBounds_toArray, List.set_cons_zero, List.set_cons_succ]
          refine wpAnyH_take (i := 3) (oi := ⟨some 18, _, _, _, _, _⟩) (v := ?_) rfl (by kernel_rfl) (by kernel_rfl) (by kernel_rfl) (fun _ _ _ h => h) (Or.inl ⟨by rfl, ?_⟩) (by assumption) ?_
          rotate_left 1
          · (intro w hSw; (try dsimp only at hSw); obtain ⟨hB, hC⟩ := hSw; have k0 := hB.cell 0; have k1 := hB.cell 1; have k2 := hB.cell 2; have k3 := hB.cell 3; have k4 := hB.cell 4; have k5 := hB.cell 5; have k6 := hB.cell 6; have k7 := hB.cell 7; have k8 := hB.cell 8; have k9 := hB.cell 9; clear hB; simp only [List.getElem?_toArray, List.getElem?_cons_succ, List.getElem?_cons_zero] at k0 k1 k2 k3 k4 k5 k6 k7 k8 k9; go_simp) <;> (with_reducible rfl)
          try simp only [Act.put, List.setIfInBounds_toArray, List.set_cons_zero, List.set_cons_succ]
          refine wpAnyH_take (i := 4) (oi := ⟨some 19, _, _, _, _, _⟩) (v := ?_) rfl (by kernel_rfl) (by kernel_rfl) (by kernel_rfl) (fun _ _ _ h => h) (Or.inl ⟨by rfl, ?_⟩) (by assumption) ?_
          rotate_left 1
          · (intro w hSw; (try dsimp only at hSw); obtain ⟨hB, hC⟩ := hSw; have k0 := hB.cell 0; have k1 := hB.cell 1; have k2 := hB.cell 2; have k3 := hB.cell 3; have k4 := hB.cell 4; have k5 := hB.cell 5; have k6 := hB.cell 6; have k7 := hB.cell 7; have k8 := hB.cell 8; have k9 := hB.cell 9; clear hB; simp only [List.getElem?_toArray, List.getElem?_cons_succ, List.getElem?_cons_zero] at k0 k1 k2 k3 k4 k5 k6 k7 k8 k9; go_simp) <;> (with_reducible rfl)
          try simp only [Act.put, List.setIfInBounds_toArray, List.set_cons_zero, List.set_cons_succ]
          refine wpAnyH_take (i := 5) (oi := ⟨some 20, _, _, _, _, _⟩) (v := ?_) rfl (by kernel_rfl) (by kernel_rfl) (by kernel_rfl) (fun _ _ _ h => h) (Or.inl ⟨by rfl, ?_⟩) (by assumption) ?_
          rotate_left 1
          · (intro w hSw; (try dsimp only at hSw); obtain ⟨hB, hC⟩ := hSw; have k0 := hB.cell 0; have k1 := hB.cell 1; have k2 := hB.cell 2; have k3 := hB.cell 3; have k4 := hB.cell 4; have k5 := hB.cell 5; have k6 := hB.cell 6; have k7 := hB.cell 7; have k8 := hB.cell 8; have k9 := hB.cell 9; clear hB; simp only [List.getElem?_toArray, List.getElem?_cons_succ, List.getElem?_cons_zero] at k0 k1 k2 k3 k4 k5 k6 k7 k8 k9; go_simp) <;> (with_reducible rfl)
          try simp only [Act.put, List.setIfInBounds_toArray, List.set_cons_zero, List.set_cons_succ]
          refine wpAnyH_take (i := 7) (oi := ⟨some 22, _, _, _, _, _⟩) (v := ?_) rfl (by kernel_rfl) (by kernel_rfl) (by kernel_rfl) (fun _ _ _ h => h) (Or.inl ⟨by rfl, ?_⟩) (by assumption) ?_
          rotate_left 1
          · (intro w hSw; (try dsimp only at hSw); obtain ⟨hB, hC⟩ := hSw; have k0 := hB.cell 0; have k1 := hB.cell 1; have k2 := hB.cell 2; have k3 := hB.cell 3; have k4 := hB.cell 4; have k5 := hB.cell 5; have k6 := hB.cell 6; have k7 := hB.cell 7; have k8 := hB.cell 8; have k9 := hB.cell 9; clear hB; simp only [List.getElem?_toArray, List.getElem?_cons_succ, List.getElem?_cons_zero] at k0 k1 k2 k3 k4 k5 k6 k7 k8 k9; go_simp) <;> (with_reducible rfl)
          try simp only [Act.put, List.setIfInBounds_toArray, List.set_cons_zero, List.set_cons_succ]
          refine wpAnyH_ready (rs := [6]) (by kernel_rfl) (by simp) ?_
          refine AllReadyH.cons (o := ⟨some 21, _, _, _, _, _⟩) rfl (fun K hK => ?_) AllReadyH.nil
          go_simp
          go_at_call 42
          refine (HHM.out _ HF3.out).mono ?_
          clear hHeld
          rintro e w4 ⟨A2, c2, rfl, hh⟩
          have HF4 : Hid (Fr (fun b => b = bm) w2 w4) := HF3.out.trans (hh.fr.mono fun _ _ e => e.elim)
          have H4 : Hid (∃ s', s' ≤ s + 1 ∧ Fl w4 B g bm s' (-1) (-1) (gAt xs (k + 1))) := ⟨_, H3.out.1, H3.out.2.nofr hh.fr⟩
          have HCT := Lib.hid (contains_any w4 A2 c2 (homesOf o.marks) hh.rd HHL.out rg)
          clear hh H3
          refine hK.out _ _ ?_ (fun hHeld => ?_)
          · exact HSD.out _ HF4.out
          clear hK K
          try simp only [Act.put, List.setIfInBounds_toArray, List.set_cons_zero, List.set_cons_succ]
          refine wpAnyH_ready (rs := [8]) (by kernel_rfl) (by simp) ?_
          refine AllReadyH.cons (o := ⟨some 23, _, _, _, _, _⟩) rfl (fun K hK => ?_) AllReadyH.nil
          go_simp
          go_at_call 41
          refine HCT.out.mono ?_
          rintro e _ ⟨hb, rfl, hhb, rfl⟩
          rw [← HHR.out] at hhb
          obtain rfl : hb = true := hhb.out
          clear hhb HCT hHeld
          refine hK.out _ _ ?_ (fun hHeld => ?_)
          · exact HSD.out _ HF4.out
          clear hK K
          try simp only [Act.put, List.setIfInBounds_toArray, List.set_cons_zero, List.set_cons_succ]
          refine wpAnyH_take (i := 9) (oi := ⟨some 24, _, _, _, _, _⟩) (v := ?_) rfl (by kernel_rfl) (by kernel_rfl) (by kernel_rfl) (fun _ _ _ h => h) (Or.inl ⟨by rfl, ?_⟩) (by assumption) ?_
          rotate_left 1
          · (intro w hSw; (try dsimp only at hSw); obtain ⟨hB, hC⟩ := hSw; have k0 := hB.cell 0; have k1 := hB.cell 1; have k2 := hB.cell 2; have k3 := hB.cell 3; have k4 := hB.cell 4; have k5 := hB.cell 5; have k6 := hB.cell 6; have k7 := hB.cell 7; have k8 := hB.cell 8; have k9 := hB.cell 9; clear hB; simp only [List.getElem?_toArray, List.getElem?_cons_succ, List.getElem?_cons_zero] at k0 k1 k2 k3 k4 k5 k6 k7 k8 k9; go_simp) <;> (with_reducible rfl)
          try simp only [Act.put, List.setIfInBounds_toArray, List.set_cons_zero, List.set_cons_succ]
          refine wpAnyH_take (i := 10) (oi := ⟨some 25, _, _, _, _, _⟩) (v := ?_) rfl (by kernel_rfl) (by kernel_rfl) (by kernel_rfl) (fun _ _ _ h => h) (Or.inl ⟨by rfl, ?_⟩) (by assumption) ?_
          rotate_left 1
          · (intro w hSw; (try dsimp only at hSw); obtain ⟨hB, hC⟩ := hSw; have k0 := hB.cell 0; have k1 := hB.cell 1; have k2 := hB.cell 2; have k3 := hB.cell 3; have k4 := hB.cell 4; have k5 := hB.cell 5; have k6 := hB.cell 6; have k7 := hB.cell 7; have k8 := hB.cell 8; have k9 := hB.cell 9; clear hB; simp only [List.getElem?_toArray, List.getElem?_cons_succ, List.getElem?_cons_zero] at k0 k1 k2 k3 k4 k5 k6 k7 k8 k9; go_simp) <;> (with_reducible rfl)
          try simp only [Act.put, List.setIfInBounds_toArray, List.set_cons_zero, List.set_cons_succ]
          refine wpAnyH_done (by kernel_rfl) ?_ _
          have hb4 := (HSD.out _ HF4.out).1
          have d0 : w4.cell? ⟨q, 0, none⟩ = some (.int .i64 o.node) := hb4.cell 0
          have d1 : w4.cell? ⟨q, 1, none⟩ = some (.int .u64 (o.epoch : Int)) := hb4.cell 1
          have d2 : w4.cell? ⟨q, 2, none⟩ = some (.int .u64 (o.seq : Int)) := hb4.cell 2
          have d3 : w4.cell? ⟨q, 3, none⟩ = some (.int .i64 o.tr) := hb4.cell 3
          have d4 : w4.cell? ⟨q, 4, none⟩ = some (.int .i64 o.t.kind) := hb4.cell 4
          have d5 : w4.cell? ⟨q, 5, none⟩ = some (.slice o.t.ra o.t.reads.length o.t.rc) := hb4.cell 5
          have d6 : w4.cell? ⟨q, 6, none⟩ = some (.slice o.t.wa o.t.writes.length o.t.wc) := hb4.cell 6
          have d7 : w4.cell? ⟨q, 7, none⟩ = some (.slice o.t.oa o.t.ops.length o.t.oc) := hb4.cell 7
          have d8 : w4.cell? ⟨q, 8, none⟩ = some (.int .i64 o.t.to) := hb4.cell 8
          have d9 : w4.cell? ⟨q, 9, none⟩ = some (.slice o.ma o.marks.length o.mc) := hb4.cell 9
          have HYK := Lib.hid (HY.out pre ⟨(k, o), HO.out⟩ w4 (HJ2.out _ HF4.out) (by have := pcs_len rg xs k; have := congrArg List.length HPR.out; rw [List.length_map] at this; omega))
          unfold encP imv ima at HYK
          dsimp only at HYK
          clear hb4
          gi_wp2
          obtain ⟨fn, tmps, assign, body, hy, hR⟩ := HYK.out
          rw [hy]
          gi_wp2
          refine hR.mono ?_
          rintro e W3 (⟨rfl, hJ3, hk3⟩ | ⟨rfl, hJx3⟩)
          · have HJ3 := Lib.hid hJ3
            have HK3 := Lib.hid hk3
            clear hJ3 hk3 hy hR d0 d1 d2 d3 d4 d5 d6 d7 d8 d9
            gi_wp2
            go_roundw
            case rel =>
              obtain ⟨s', hs', h⟩ := H4.out
              refine ⟨k + 1, s', pre ++ [⟨(k, o), HO.out⟩], by omega, by go_num, Nat.le_trans hs' (Nat.succ_le_succ HSL.out), by show _ = _; rw [List.map_append, HPR.out, HNX.out]; rfl, HJ3, h.kept HK3.out, (HFP2.out _ HF4.out).step HK3.out fun i _ hn => ?_⟩
              rcases Nat.lt_or_ge i w0.heap.size with h1 | h1
              · by_cases h2 : E i
                · exact .inr h2
                · exact (hn (.inl ⟨h1, h2⟩)).elim
              · exact .inl h1
            case measure => simp [intOf]; omega
          · have HJx3 := Lib.hid hJx3
            clear hJx3 hy hR d0 d1 d2 d3 d4 d5 d6 d7 d8 d9
            gi_wp2
            refine bodyPost_ret (results_none rfl _ _ _) rfl ?_
            refine ⟨⟨_, rfl⟩, .inr ⟨_, ?_, HJx3.out⟩⟩
            have := pcs_pre rg xs (k + 1) (xs.length - (k + 1))
            rw [List.map_append, HPR.out]
            rw [HNX.out] at this
            rwa [show k + 1 + (xs.length - (k + 1)) = xs.length from by omega] at this
    · have i3 : (xs.length : Int) ≤ (k : Int) := by omega
      have hkn : k = xs.length := by omega
      have HE' : Hid (pre.map (·.1) = pcs rg xs xs.length) := by
        show _ = _
        rw [← hkn]
        exact HPR.out
      clear hkn
      gi_wp2
      refine ⟨rfl, _, results_none rfl _ _ _, ?_⟩
      exact ⟨⟨_, rfl⟩, .inl ⟨_, HE'.out, HJ.out⟩⟩
end Go.Proofs.Ytdgjjkmgdjiliaa
