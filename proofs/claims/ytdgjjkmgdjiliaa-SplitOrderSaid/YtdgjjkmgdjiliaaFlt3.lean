/- A filter: Item. Conditions: few tags, few marks. -/
import Derived.Test.YtdgjjkmgdjiliaaFlt2
import Derived.BigQuiet
import Derived.Deep.QuietTactic
namespace Go.Proofs.Ytdgjjkmgdjiliaa
open Go.RowKit Go.Maps
theorem contains_any (w : World) (A : Option Addr) (c : Nat) (xs : List Int) (hr : Rd w A (ic xs)) (hl : xs.length ≤ 1000) (v : Int) :
    Calls Try.prog 41 #[.slice A xs.length c, .int .i64 v] w fun e w' => ∃ b, e = .returned (.bool b) ∧ Hid (b = xs.contains v) ∧ w = w' := by
  rcases Nat.eq_zero_or_pos xs.length with h0 | h0
  · rw [h0]
    refine (Try.slices_Contains_int_empty A c v w).mono ?_
    rintro e w' ⟨rfl, rfl⟩
    rw [List.eq_nil_of_length_eq_zero h0]
    exact ⟨false, rfl, rfl, rfl⟩
  · obtain ⟨b, o, rfl, hc⟩ := hr (by rw [ic_len]; exact h0)
    refine (Try.slices_Contains_int b o xs.length c xs v w (Nat.le_refl _) (by omega) fun j hj => ?_).mono ?_
    · have hx : xs[j]? = some (xs.getD j 0) := by rw [List.getD_eq_getElem?_getD, List.getElem?_eq_getElem hj]; rfl
      exact hc j _ (ic_get xs j _ hx)
    · rintro e w' ⟨rfl, rfl⟩
      rw [List.take_length]
      exact ⟨_, rfl, rfl, rfl⟩
/-- an item by value. -/
structure Im where
  kind : Int
  index : Int
  o : Od
def ima (i : Im) : Array Value := #[.int .i64 i.kind, .int .i64 i.index, .int .i64 i.o.node, .int .u64 (i.o.epoch : Int), .int .u64 (i.o.seq : Int), .int .i64 i.o.tr, .int .i64 i.o.t.kind, .slice i.o.t.ra i.o.t.reads.length i.o.t.rc, .slice i.o.t.wa i.o.t.writes.length i.o.t.wc, .slice i.o.t.oa i.o.t.ops.length i.o.t.oc, .int .i64 i.o.t.to, .slice i.o.ma i.o.marks.length i.o.mc]
def imv (i : Im) : Value := .agg (ima i)
/-- is the region one of the order's homes? -/
def homeB (rg : Int) (i : Im) : Bool := (homesOf i.o.marks).contains rg
def runB (i : Im) : Bool := decide (i.kind = 1) && singleOf i.o
def pieceB (la : Int) (i : Im) : Bool := decide (i.kind = 2) && (!singleOf i.o && decide (la < i.index))
def countB (rg la : Int) (m : Tg → Bool) (i : Im) : Bool := homeB rg i && (if runB i then !m (tgOf i.o) else pieceB la i)
def lastB (rg la : Int) (i : Im) : Int := if homeB rg i && !runB i && pieceB la i then i.index else la
def tagsB (rg : Int) (m : Tg → Bool) (i : Im) : Tg → Bool := if homeB rg i && runB i then addT m (tgOf i.o) else m
def ItemPost (w : World) (B g bm s : Nat) (rg la : Int) (m : Tg → Bool) (i : Im) (e : Ending) (w' : World) : Prop :=
  e = .returned (.bool (countB rg la m i)) ∧ (∃ s', s' ≤ s + 1 ∧ Fl w' B g bm s' rg (lastB rg la i) (tagsB rg m i)) ∧ Fr (fun b => b = bm ∨ b = g) w w'
set_option maxRecDepth 100000 in
set_option maxHeartbeats 2000000 in
theorem fitem_any (w : World) (B g bm s : Nat) (rg la : Int) (m : Tg → Bool) (h : Fl w B g bm s rg la m) (hs : s ≤ 100000) (i : Im) (ho : OdIn w i.o) (hm : i.o.marks.length ≤ 1000) (ht : TgOk (tgOf i.o)) :
    Calls Try.prog 19 #[.pointer (some ⟨g, 0, none⟩), imv i] w (ItemPost w B g bm s rg la m i) := by
  obtain ⟨q, hq⟩ : ∃ q, q = w.heap.size := ⟨_, rfl⟩
  obtain ⟨w1, hw1⟩ : ∃ w1, w1 = w.alloc (.cells (ima i) 40) := ⟨_, rfl⟩
  have HF1 : Hid (Fr NoBlk w w1) := by show Fr _ _ _; rw [hw1]; exact (Fr.refl _ _).alloc _
  have HB1 : Hid (Bk w1 q 40 (ima i)) := by show Bk _ _ _ _; rw [hw1, hq]; exact Bk.new _ _ _
  have H1 := Lib.hid (h.nofr HF1.out)
  have HOI : Hid (∀ W, Fr NoBlk w1 W → OdIn W i.o) := fun W hW => (ho.nofr HF1.out).nofr hW
  have HHM := Lib.hid (homes_any w1.drew i.o (HOI.out _ (Fr.refl _ _).drew) hm)
  have HML := Lib.hid (homesOf_len i.o.marks hm)
  have HM := Lib.hid hm
  have HW1 := Lib.hid hw1
  have HQ := Lib.hid hq
  have HSS := Lib.hid hs
  have HTK := Lib.hid ht
  have HSD : Hid (∀ W, Fr NoBlk w1 W → W.cell? ⟨g, 0, none⟩ = some (.int .i64 rg) ∧ Bk W q 40 #[.int .i64 i.kind, .int .i64 i.index, .int .i64 i.o.node, .int .u64 (i.o.epoch : Int), .int .u64 (i.o.seq : Int), .int .i64 i.o.tr, .int .i64 i.o.t.kind, .slice i.o.t.ra i.o.t.reads.length i.o.t.rc, .slice i.o.t.wa i.o.t.writes.length i.o.t.wc, .slice i.o.t.oa i.o.t.ops.length i.o.t.oc, .int .i64 i.o.t.to, .slice i.o.ma i.o.marks.length i.o.mc]) := fun W hW => ⟨(H1.out.nofr hW).bk.cell 0, HB1.out.fr hW fun e => e⟩
  clear h ho hm ht hw1 hq hs
  unfold odv oda at HHM
  unfold ima at HW1 HB1
  unfold imv ima
  go_enter Try.func19, Try.ntmps19
  go_wp2_with fail
  rw [← HW1.out, ← HQ.out]
  clear HW1
  refine wp_region_held_drew (S := fun w' => w'.cell? ⟨g, 0, none⟩ = some (.int .i64 rg) ∧ Bk w' q 40 #[.int .i64 i.kind, .int .i64 i.index, .int .i64 i.o.node, .int .u64 (i.o.epoch : Int), .int .u64 (i.o.seq : Int), .int .i64 i.o.tr, .int .i64 i.o.t.kind, .slice i.o.t.ra i.o.t.reads.length i.o.t.rc, .slice i.o.t.wa i.o.t.writes.length i.o.t.wc, .slice i.o.t.oa i.o.t.ops.length i.o.t.oc, .int .i64 i.o.t.to, .slice i.o.ma i.o.marks.length i.o.mc]) (by kernel_rfl) (HSD.out _ (Fr.refl _ _).drew) (fun hHeld => ?_)
  refine wpAnyH_take (i := 0) (oi := ⟨some 6, _, _, _, _, _⟩) (v := ?_) rfl (by kernel_rfl) (by kernel_rfl) (by kernel_rfl) (fun _ _ _ h => h) (Or.inl ⟨by rfl, ?_⟩) (by assumption) ?_
  rotate_left 1
  · (intro w hSw; (try dsimp only at hSw); obtain ⟨hS1, hS2⟩ := hSw; have k2 := hS2.cell 2; have k3 := hS2.cell 3; have k4 := hS2.cell 4; have k5 := hS2.cell 5; have k6 := hS2.cell 6; have k7 := hS2.cell 7; have k8 := hS2.cell 8; have k9 := hS2.cell 9; have k10 := hS2.cell 10; have k11 := hS2.cell 11; clear hS2; simp only [List.getElem?_toArray, List.getElem?_cons_succ, List.getElem?_cons_zero] at k2 k3 k4 k5 k6 k7 k8 k9 k10 k11; go_simp) <;> (with_reducible rfl)
  try simp only [Act.put, List.setIfInBounds_toArray, List.set_cons_zero, List.set_cons_succ]
  refine wpAnyH_take (i := 1) (oi := ⟨some 7, _, _, _, _, _⟩) (v := ?_) rfl (by kernel_rfl) (by kernel_rfl) (by kernel_rfl) (fun _ _ _ h => h) (Or.inl ⟨by rfl, ?_⟩) (by assumption) ?_
  rotate_left 1
  · (intro w hSw; (try dsimp only at hSw); obtain ⟨hS1, hS2⟩ := hSw; have k2 := hS2.cell 2; have k3 := hS2.cell 3; have k4 := hS2.cell 4; have k5 := hS2.cell 5; have k6 := hS2.cell 6; have k7 := hS2.cell 7; have k8 := hS2.cell 8; have k9 := hS2.cell 9; have k10 := hS2.cell 10; have k11 := hS2.cell 11; clear hS2; simp only [List.getElem?_toArray, List.getElem?_cons_succ, List.getElem?_cons_zero] at k2 k3 k4 k5 k6 k7 k8 k9 k10 k11; go_simp) <;> (with_reducible rfl)
  try simp only [Act.put, List.setIfInBounds_toArray, List.set_cons_zero, List.set_cons_succ]
  refine wpAnyH_take (i := 3) (oi := ⟨some 9, _, _, _, _, _⟩) (v := ?_) rfl (by kernel_rfl) (by kernel_rfl) (by kernel_rfl) (fun _ _ _ h => h) (Or.inl ⟨by rfl, ?_⟩) (by assumption) ?_
  rotate_left 1
  · (intro w hSw; (try dsimp only at hSw); obtain ⟨hS1, hS2⟩ := hSw; have k2 := hS2.cell 2; have k3 := hS2.cell 3; have k4 := hS2.cell 4; have k5 := hS2.cell 5; have k6 := hS2.cell 6; have k7 := hS2.cell 7; have k8 := hS2.cell 8; have k9 := hS2.cell 9; have k10 := hS2.cell 10; have k11 := hS2.cell 11; clear hS2; simp only [List.getElem?_toArray, List.getElem?_cons_succ, List.getElem?_cons_zero] at k2 k3 k4 k5 k6 k7 k8 k9 k10 k11; go_simp) <;> (with_reducible rfl)
  try simp only [Act.put, List.setIfInBounds_toArray, List.set_cons_zero, List.set_cons_succ]
  refine wpAnyH_take (i := 4) (oi := ⟨some 10, _, _, _, _, _⟩) (v := ?_) rfl (by kernel_rfl) (by kernel_rfl) (by kernel_rfl) (fun _ _ _ h => h) (Or.inl ⟨by rfl, ?_⟩) (by assumption) ?_
  rotate_left 1
  · (intro w hSw; (try dsimp only at hSw); obtain ⟨hS1, hS2⟩ := hSw; have k2 := hS2.cell 2; have k3 := hS2.cell 3; have k4 := hS2.cell 4; have k5 := hS2.cell 5; have k6 := hS2.cell 6; have k7 := hS2.cell 7; have k8 := hS2.cell 8; have k9 := hS2.cell 9; have k10 := hS2.cell 10; have k11 := hS2.cell 11; clear hS2; simp only [List.getElem?_toArray, List.getElem?_cons_succ, List.getElem?_cons_zero] at k2 k3 k4 k5 k6 k7 k8 k9 k10 k11; go_simp) <;> (with_reducible rfl)
  try simp only [Act.put, List.setIfInBounds_toArray, List.set_cons_zero, List.set_cons_succ]
  refine wpAnyH_take (i := 5) (oi := ⟨some 11, _, _, _, _, _⟩) (v := ?_) rfl (by kernel_rfl) (by kernel_rfl) (by kernel_rfl) (fun _ _ _ h => h) (Or.inl ⟨by rfl, ?_⟩) (by assumption) ?_
  rotate_left 1
  · (intro w hSw; (try dsimp only at hSw); obtain ⟨hS1, hS2⟩ := hSw; have k2 := hS2.cell 2; have k3 := hS2.cell 3; have k4 := hS2.cell 4; have k5 := hS2.cell 5; have k6 := hS2.cell 6; have k7 := hS2.cell 7; have k8 := hS2.cell 8; have k9 := hS2.cell 9; have k10 := hS2.cell 10; have k11 := hS2.cell 11; clear hS2; simp only [List.getElem?_toArray, List.getElem?_cons_succ, List.getElem?_cons_zero] at k2 k3 k4 k5 k6 k7 k8 k9 k10 k11; go_simp) <;> (with_reducible rfl)
  try simp only [Act.put, List.setIfInBounds_toArray, List.set_cons_zero, List.set_cons_succ]
  refine wpAnyH_take (i := 6) (oi := ⟨some 12, _, _, _, _, _⟩) (v := ?_) rfl (by kernel_rfl) (by kernel_rfl) (by kernel_rfl) (fun _ _ _ h => h) (Or.inl ⟨by rfl, ?_⟩) (by assumption) ?_
  rotate_left 1
  · (intro w hSw; (try dsimp only at hSw); obtain ⟨hS1, hS2⟩ := hSw; have k2 := hS2.cell 2; have k3 := hS2.cell 3; have k4 := hS2.cell 4; have k5 := hS2.cell 5; have k6 := hS2.cell 6; have k7 := hS2.cell 7; have k8 := hS2.cell 8; have k9 := hS2.cell 9; have k10 := hS2.cell 10; have k11 := hS2.cell 11; clear hS2; simp only [List.getElem?_toArray, List.getElem?_cons_succ, List.getElem?_cons_zero] at k2 k3 k4 k5 k6 k7 k8 k9 k10 k11; go_simp) <;> (with_reducible rfl)
  try simp only [Act.put, List.setIfInBounds_toArray, List.set_cons_zero, List.set_cons_succ]
  refine wpAnyH_ready (rs := [2]) (by kernel_rfl) (by simp) ?_
  refine AllReadyH.cons (o := ⟨some 8, _, _, _, _, _⟩) rfl (fun K hK => ?_) AllReadyH.nil
  go_simp
  go_at_call 42
  refine HHM.out.mono ?_
  rintro e w2 ⟨A2, c2, rfl, hh⟩
  have HF2 : Hid (Fr NoBlk w1 w2) := (Fr.refl NoBlk w1).drew.trans hh.fr
  have HCT := Lib.hid (contains_any w2 A2 c2 (homesOf i.o.marks) hh.rd HML.out rg)
  clear hh HHM hHeld
  refine hK.out _ _ ?_ (fun hHeld => ?_)
  · exact HSD.out _ HF2.out
  clear hK K
  try simp only [Act.put, List.setIfInBounds_toArray, List.set_cons_zero, List.set_cons_succ]
  refine wpAnyH_ready (rs := [7]) (by kernel_rfl) (by simp) ?_
  refine AllReadyH.cons (o := ⟨some 13, _, _, _, _, _⟩) rfl (fun K hK => ?_) AllReadyH.nil
  go_simp
  go_at_call 41
  refine HCT.out.mono ?_
  rintro e _ ⟨hb, rfl, HHC, rfl⟩
  clear HCT hHeld
  refine hK.out _ _ ?_ (fun hHeld => ?_)
  · exact HSD.out _ HF2.out
  clear hK K
  try simp only [Act.put, List.setIfInBounds_toArray, List.set_cons_zero, List.set_cons_succ]
  refine wpAnyH_take (i := 8) (oi := ⟨some 14, _, _, _, _, _⟩) (v := ?_) rfl (by kernel_rfl) (by kernel_rfl) (by kernel_rfl) (fun _ _ _ h => h) (Or.inl ⟨by rfl, ?_⟩) (by assumption) ?_
  rotate_left 1
  · (intro w hSw; (try dsimp only at hSw); obtain ⟨hS1, hS2⟩ := hSw; have k2 := hS2.cell 2; have k3 := hS2.cell 3; have k4 := hS2.cell 4; have k5 := hS2.cell 5; have k6 := hS2.cell 6; have k7 := hS2.cell 7; have k8 := hS2.cell 8; have k9 := hS2.cell 9; have k10 := hS2.cell 10; have k11 := hS2.cell 11; clear hS2; simp only [List.getElem?_toArray, List.getElem?_cons_succ, List.getElem?_cons_zero] at k2 k3 k4 k5 k6 k7 k8 k9 k10 k11; go_simp) <;> (with_reducible rfl)
  try simp only [Act.put, List.setIfInBounds_toArray, List.set_cons_zero, List.set_cons_succ]
  refine wpAnyH_done (by kernel_rfl) ?_ _
  have H2 := Lib.hid (H1.out.nofr HF2.out)
  have HB2 := Lib.hid (HSD.out _ HF2.out).2
  have HSG := Lib.hid (single_any w2 i.o (HOI.out _ HF2.out) HM.out)
  have HFA := Lib.hid (HF1.out.trans HF2.out)
  clear H1 HB1 HOI HSD HF2
  have HHB : Hid (homeB rg i = hb) := HHC.out.symm
  clear HHC
  cases hb with
  | false =>
    go_wp2_with fail
    go_ret
    refine ⟨by unfold countB; rw [HHB.out]; rfl, ⟨s, by omega, ?_⟩, HFA.out.mono fun _ _ e => e.elim⟩
    unfold lastB tagsB
    rw [HHB.out]
    exact H2.out
  | true =>
    obtain ⟨sb, hsb⟩ : ∃ sb, sb = singleOf i.o := ⟨_, rfl⟩
    rw [← hsb] at HSG
    have HSB := Lib.hid hsb
    unfold odv oda at HSG
    have k0 : w2.cell? ⟨q, 0, none⟩ = some (.int .i64 i.kind) := HB2.out.cell 0
    have k1 : w2.cell? ⟨q, 1, none⟩ = some (.int .i64 i.index) := HB2.out.cell 1
    have k2 : w2.cell? ⟨q, 2, none⟩ = some (.int .i64 i.o.node) := HB2.out.cell 2
    have k3 : w2.cell? ⟨q, 3, none⟩ = some (.int .u64 (i.o.epoch : Int)) := HB2.out.cell 3
    have k4 : w2.cell? ⟨q, 4, none⟩ = some (.int .u64 (i.o.seq : Int)) := HB2.out.cell 4
    have k5 : w2.cell? ⟨q, 5, none⟩ = some (.int .i64 i.o.tr) := HB2.out.cell 5
    have k6 : w2.cell? ⟨q, 6, none⟩ = some (.int .i64 i.o.t.kind) := HB2.out.cell 6
    have k7 : w2.cell? ⟨q, 7, none⟩ = some (.slice i.o.t.ra i.o.t.reads.length i.o.t.rc) := HB2.out.cell 7
    have k8 : w2.cell? ⟨q, 8, none⟩ = some (.slice i.o.t.wa i.o.t.writes.length i.o.t.wc) := HB2.out.cell 8
    have k9 : w2.cell? ⟨q, 9, none⟩ = some (.slice i.o.t.oa i.o.t.ops.length i.o.t.oc) := HB2.out.cell 9
    have k10 : w2.cell? ⟨q, 10, none⟩ = some (.int .i64 i.o.t.to) := HB2.out.cell 10
    have k11 : w2.cell? ⟨q, 11, none⟩ = some (.slice i.o.ma i.o.marks.length i.o.mc) := HB2.out.cell 11
    clear hsb
    go_wp2_with fail
    refine HSG.out.mono ?_
    clear HSG k0 k1 k2 k3 k4 k5 k6 k7 k8 k9 k10 k11
    rintro e w3 ⟨rfl, hf3⟩
    have HF3 := Lib.hid (HFA.out.trans hf3)
    have H3 := Lib.hid (H2.out.nofr hf3)
    have HB3 := Lib.hid (HB2.out.fr hf3 fun e => e)
    have k0 : w3.cell? ⟨q, 0, none⟩ = some (.int .i64 i.kind) := HB3.out.cell 0
    have k1 : w3.cell? ⟨q, 1, none⟩ = some (.int .i64 i.index) := HB3.out.cell 1
    have k2 : w3.cell? ⟨q, 2, none⟩ = some (.int .i64 i.o.node) := HB3.out.cell 2
    have k3 : w3.cell? ⟨q, 3, none⟩ = some (.int .u64 (i.o.epoch : Int)) := HB3.out.cell 3
    have k4 : w3.cell? ⟨q, 4, none⟩ = some (.int .u64 (i.o.seq : Int)) := HB3.out.cell 4
    have k5 : w3.cell? ⟨q, 5, none⟩ = some (.int .i64 i.o.tr) := HB3.out.cell 5
    have g1 : w3.cell? ⟨g, 1, none⟩ = some (.int .i64 la) := H3.out.bk.cell 1
    have gf := H3.out.bk.free 1
    clear hf3 H2 HB2
    have NOPE : Hid (runB i = false → pieceB la i = false → ∀ w', Fr NoBlk w3 w' → ItemPost w B g bm s rg la m i (.returned (.bool false)) w') := fun h1 h2 w' hw' => by
      refine ⟨by unfold countB; rw [HHB.out, h1, h2]; rfl, ⟨s, by omega, ?_⟩, (HF3.out.trans hw').mono fun _ _ e => e.elim⟩
      unfold lastB tagsB
      rw [HHB.out, h1, h2]
      exact H3.out.nofr hw'
    by_cases hk1 : i.kind = 1
    · have e1 : (i.kind == 1) = true := beq_iff_eq.2 hk1
      have e2 : (i.kind == 2) = false := beq_eq_false_iff_ne.2 (by omega)
      have HK1 := Lib.hid hk1
      clear hk1
      cases sb with
      | true =>
        have HRB : Hid (runB i = true) := by show runB i = true; unfold runB; rw [HK1.out, ← HSB.out]; rfl
        have HFF := Lib.hid (ffirst_any w3 B g bm s rg la m H3.out HSS.out (tgOf i.o) HTK.out)
        unfold tgv tgOf at HFF
        dsimp only at HFF
        clear NOPE
        go_wp2_with fail
        refine HFF.out.mono ?_
        clear HFF
        rintro e w4 ⟨rfl, ⟨s', hs', h4⟩, hf4⟩
        have H4 := Lib.hid (And.intro hs' (And.intro h4 hf4))
        clear hs' h4 hf4
        obtain ⟨b2, hb2⟩ : ∃ b2, b2 = m ⟨i.o.node, i.o.epoch, i.o.seq, i.o.tr⟩ := ⟨_, rfl⟩
        rw [← hb2]
        have HB4 := Lib.hid hb2
        clear hb2
        go_wp2_with fail
        go_ret
        refine ⟨by unfold countB; rw [HHB.out, HRB.out, HB4.out]; rfl, ⟨s', H4.out.1, ?_⟩, (HF3.out.mono fun _ _ e => e.elim).trans (H4.out.2.2.mono fun _ _ e => .inl e)⟩
        unfold lastB tagsB
        rw [HHB.out, HRB.out]
        exact H4.out.2.1
      | false =>
        have HN := Lib.hid (NOPE.out (by unfold runB; rw [← HSB.out]; exact Bool.and_false _) (by unfold pieceB; rw [HK1.out]; rfl))
        clear NOPE
        go_wp2_with fail
        go_quiet (fail)
        go_wp2_with fail
        go_ret
        exact HN.out _ ((Fr.refl _ _).drewN _)
    · have e1 : (i.kind == 1) = false := beq_eq_false_iff_ne.2 hk1
      have HR0 : Hid (runB i = false) := by show runB i = false; unfold runB; rw [decide_eq_false hk1]; rfl
      by_cases hk2 : i.kind = 2
      · have e2 : (i.kind == 2) = true := beq_iff_eq.2 hk2
        have HK2 := Lib.hid hk2
        clear hk1 hk2
        cases sb with
        | true =>
          have HN := Lib.hid (NOPE.out HR0.out (by unfold pieceB; rw [← HSB.out, HK2.out]; rfl))
          clear NOPE
          go_wp2_with fail
          go_quiet (fail)
          go_wp2_with fail
          go_ret
          exact HN.out _ ((Fr.refl _ _).drewN _)
        | false =>
          by_cases hla : la < i.index
          · have e3 : decide (la < i.index) = true := decide_eq_true hla
            have HPB : Hid (pieceB la i = true) := by show pieceB la i = true; unfold pieceB; rw [← HSB.out, HK2.out, e3]; rfl
            clear NOPE
            go_wp2_with fail
            go_quiet (fail)
            have g1q : (w3.drewN nq).cell? ⟨g, 1, none⟩ = some (.int .i64 la) := g1
            have gfq : (w3.drewN nq).frozen? ⟨g, 1, none⟩ = false := gf
            go_wp2_with fail
            go_ret
            have hfs : Fr (fun b => b = g) w3 ((w3.drewN nq).setCell ⟨g, 1, none⟩ (.int .i64 i.index)) := ((Fr.refl (fun b => b = g) w3).drewN nq).setCell (p := ⟨g, 1, none⟩) (fun _ => rfl) _
            refine ⟨by unfold countB; rw [HHB.out, HR0.out, HPB.out]; rfl, ⟨s, by omega, ?_⟩, (HF3.out.mono fun _ _ e => e.elim).trans (hfs.mono fun _ _ e => .inr e)⟩
            unfold lastB tagsB
            rw [HHB.out, HR0.out, HPB.out]
            exact ⟨(H3.out.bk.fr ((Fr.refl NoBlk w3).drewN nq) fun e => e).put 1 _, H3.out.mp.fr hfs fun e => H3.out.ne e.symm, H3.out.b1, H3.out.b2⟩
          · have e3 : decide (la < i.index) = false := decide_eq_false hla
            have HN := Lib.hid (NOPE.out HR0.out (by unfold pieceB; rw [e3, Bool.and_false, Bool.and_false]))
            clear NOPE
            go_wp2_with fail
            go_quiet (fail)
            go_wp2_with fail
            go_ret
            exact HN.out _ ((Fr.refl _ _).drewN _)
      · have e2 : (i.kind == 2) = false := beq_eq_false_iff_ne.2 hk2
        have HN := Lib.hid (NOPE.out HR0.out (by unfold pieceB; rw [decide_eq_false hk2]; rfl))
        clear hk1 hk2 NOPE
        go_wp2_with fail
        go_quiet (fail)
        go_wp2_with fail
        go_ret
        exact HN.out _ ((Fr.refl _ _).drewN _)
end Go.Proofs.Ytdgjjkmgdjiliaa
