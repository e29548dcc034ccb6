/- A filter: first, Restore of nothing, Region, Global, Last, Order. Conditions: few tags, few marks. -/
import Derived.Test.YtdgjjkmgdjiliaaFlt
import Derived.Test.YtdgjjkmgdjiliaaSingle
namespace Go.Proofs.Ytdgjjkmgdjiliaa
open Go.RowKit Go.Maps

def addT (m : Tg → Bool) (t : Tg) : Tg → Bool := fun y => decide (y = t) || m y
theorem addT_old {m : Tg → Bool} {t : Tg} (h : m t = true) : addT m t = m := by
  funext y
  unfold addT
  by_cases e : y = t
  · subst e; simp [h]
  · simp [e]
def FirstPost (w : World) (B g bm s : Nat) (rg la : Int) (m : Tg → Bool) (t : Tg) (e : Ending) (w' : World) : Prop :=
  e = .returned (.bool (!m t)) ∧ (∃ s', s' ≤ s + 1 ∧ Fl w' B g bm s' rg la (addT m t)) ∧ Fr (fun b => b = bm) w w'
set_option maxRecDepth 100000 in
set_option maxHeartbeats 1000000 in
theorem ffirst_any (w : World) (B g bm s : Nat) (rg la : Int) (m : Tg → Bool) (h : Fl w B g bm s rg la m) (hs : s ≤ 100000) (t : Tg) (ht : TgOk t) :
    Calls Try.prog 44 #[.pointer (some ⟨g, 0, none⟩), tgv t] w (FirstPost w B g bm s rg la m t) := by
  obtain ⟨q, hq⟩ : ∃ q, q = w.heap.size := ⟨_, rfl⟩
  obtain ⟨w1, hw1⟩ : ∃ w1, w1 = w.alloc (.cells #[.int .i64 t.node, .int .u64 (t.epoch : Int), .int .u64 (t.seq : Int), .int .i64 t.tr] 31) := ⟨_, rfl⟩
  have HF1 : Hid (Fr NoBlk w w1) := by show Fr _ _ _; rw [hw1]; exact (Fr.refl _ _).alloc _
  have HB1 : Hid (Bk w1 q 31 #[.int .i64 t.node, .int .u64 (t.epoch : Int), .int .u64 (t.seq : Int), .int .i64 t.tr]) := by show Bk _ _ _ _; rw [hw1, hq]; exact Bk.new _ _ _
  have H1 := Lib.hid (h.nofr HF1.out)
  have HHS := Lib.hid (fhas_any w1 B g bm s rg la m H1.out t ht)
  have HTK := Lib.hid ht
  have c0 : w1.cell? ⟨q, 0, none⟩ = some (.int .i64 t.node) := HB1.out.cell 0
  have c1 : w1.cell? ⟨q, 1, none⟩ = some (.int .u64 (t.epoch : Int)) := HB1.out.cell 1
  have c2 : w1.cell? ⟨q, 2, none⟩ = some (.int .u64 (t.seq : Int)) := HB1.out.cell 2
  have c3 : w1.cell? ⟨q, 3, none⟩ = some (.int .i64 t.tr) := HB1.out.cell 3
  have HW1 := Lib.hid hw1
  have HQ := Lib.hid hq
  have HSS := Lib.hid hs
  clear h ht hw1 hq hs
  obtain ⟨b, hb⟩ : ∃ b, b = m t := ⟨_, rfl⟩
  rw [← hb] at HHS
  have HMB := Lib.hid hb
  unfold tgv at HHS ⊢
  clear hb
  go_enter Try.func44, Try.ntmps44
  go_wp2_with fail
  rw [← HW1.out, ← HQ.out]
  clear HW1 HQ
  refine HHS.out.mono ?_
  clear HHS c0 c1 c2 c3
  rintro e w2 ⟨rfl, hf2⟩
  have HF2 := Lib.hid hf2
  have H2 := Lib.hid (H1.out.nofr hf2)
  have HB2 := Lib.hid (HB1.out.fr hf2 fun e => e)
  clear hf2 H1 HB1
  cases b with
  | true =>
    go_wp2_with fail
    go_ret
    refine ⟨by rw [← HMB.out]; rfl, ⟨s, by omega, ?_⟩, (HF1.out.trans HF2.out).mono fun _ _ e => e.elim⟩
    rw [addT_old HMB.out.symm]
    exact H2.out
  | false =>
    have H2d := Lib.hid (H2.out.nofr (Fr.refl NoBlk w2).drew)
    obtain ⟨w3, hput, hkg, hf3⟩ := Kg.put H2d.out.mp tagKeyT Try.underlying75 (by have := HSS.out; unfold maxLen; omega) HTK.out (.agg #[])
    have hput' : (Instr.mapUpdate 75 (.map (some bm)) (.agg #[.int .i64 t.node, .int .u64 (t.epoch : Int), .int .u64 (t.seq : Int), .int .i64 t.tr]) (.agg #[])).run Try.prog w2.drew = .ok () w3 := hput
    rw [setT_put, setT_some, ← HMB.out] at hkg
    have hgb : g ≠ bm := H2.out.ne
    have HF3 := Lib.hid hf3
    have H3 : Hid (Fl w3 B g bm (s + 1) rg la (addT m t)) := ⟨H2d.out.bk.fr hf3 hgb, hkg, H2.out.b1, H2.out.b2⟩
    have hqb : q ≠ bm := H2.out.mp.ne HB2.out
    have HSD : Hid (∀ W, Fr (fun j => j = bm) w2 W → W.cell? ⟨g, 2, none⟩ = some (.map (some bm)) ∧ W.cell? ⟨q, 0, none⟩ = some (.int .i64 t.node) ∧ W.cell? ⟨q, 1, none⟩ = some (.int .u64 (t.epoch : Int)) ∧ W.cell? ⟨q, 2, none⟩ = some (.int .u64 (t.seq : Int)) ∧ W.cell? ⟨q, 3, none⟩ = some (.int .i64 t.tr)) := fun W hW =>
      ⟨(H2.out.bk.fr hW hgb).cell 2, (HB2.out.fr hW hqb).cell 0, (HB2.out.fr hW hqb).cell 1, (HB2.out.fr hW hqb).cell 2, (HB2.out.fr hW hqb).cell 3⟩
    clear hput hkg hf3
    go_wp2_with fail
    refine wp_region_held_drew (S := fun w' => w'.cell? ⟨g, 2, none⟩ = some (.map (some bm)) ∧ w'.cell? ⟨q, 0, none⟩ = some (.int .i64 t.node) ∧ w'.cell? ⟨q, 1, none⟩ = some (.int .u64 (t.epoch : Int)) ∧ w'.cell? ⟨q, 2, none⟩ = some (.int .u64 (t.seq : Int)) ∧ w'.cell? ⟨q, 3, none⟩ = some (.int .i64 t.tr)) (by kernel_rfl) (HSD.out _ (Fr.refl _ _).drew) (fun hHeld => ?_)
    refine wpAnyH_take (i := 0) (oi := ⟨some 8, _, _, _, _, _⟩) (v := ?_) rfl (by kernel_rfl) (by kernel_rfl) (by kernel_rfl) (fun _ _ _ h => h) (Or.inl ⟨by rfl, ?_⟩) (by assumption) ?_
    rotate_left 1
    · (intro w hSw; (try dsimp only at hSw); obtain ⟨hS1, hS2, hS3, hS4, hS5⟩ := hSw; go_simp) <;> (with_reducible rfl)
    try simp only [Act.put, List.setIfInBounds_toArray, List.set_cons_zero, List.set_cons_succ]
    refine wpAnyH_take (i := 1) (oi := ⟨some 9, _, _, _, _, _⟩) (v := ?_) rfl (by kernel_rfl) (by kernel_rfl) (by kernel_rfl) (fun _ _ _ h => h) (Or.inl ⟨by rfl, ?_⟩) (by assumption) ?_
    rotate_left 1
    · (intro w hSw; (try dsimp only at hSw); obtain ⟨hS1, hS2, hS3, hS4, hS5⟩ := hSw; go_simp) <;> (with_reducible rfl)
    try simp only [Act.put, List.setIfInBounds_toArray, List.set_cons_zero, List.set_cons_succ]
    refine wpAnyH_take (i := 2) (oi := ⟨some 10, _, _, _, _, _⟩) (v := ?_) rfl (by kernel_rfl) (by kernel_rfl) (by kernel_rfl) (fun _ _ _ h => h) (Or.inl ⟨by rfl, ?_⟩) (by assumption) ?_
    rotate_left 1
    · (intro w hSw; (try dsimp only at hSw); obtain ⟨hS1, hS2, hS3, hS4, hS5⟩ := hSw; go_simp) <;> (with_reducible rfl)
    try simp only [Act.put, List.setIfInBounds_toArray, List.set_cons_zero, List.set_cons_succ]
    refine wpAnyH_take (i := 3) (oi := ⟨some 11, _, _, _, _, _⟩) (v := ?_) rfl (by kernel_rfl) (by kernel_rfl) (by kernel_rfl) (fun _ _ _ h => h) (Or.inl ⟨by rfl, ?_⟩) (by assumption) ?_
    rotate_left 1
    · (intro w hSw; (try dsimp only at hSw); obtain ⟨hS1, hS2, hS3, hS4, hS5⟩ := hSw; go_simp) <;> (with_reducible rfl)
    try simp only [Act.put, List.setIfInBounds_toArray, List.set_cons_zero, List.set_cons_succ]
    refine wpAnyH_take (i := 4) (oi := ⟨some 12, _, _, _, _, _⟩) (v := ?_) rfl (by kernel_rfl) (by kernel_rfl) (by kernel_rfl) (fun _ _ _ h => h) (Or.inl ⟨by rfl, ?_⟩) (by assumption) ?_
    rotate_left 1
    · (intro w hSw; (try dsimp only at hSw); obtain ⟨hS1, hS2, hS3, hS4, hS5⟩ := hSw; go_simp) <;> (with_reducible rfl)
    try simp only [Act.put, List.setIfInBounds_toArray, List.set_cons_zero, List.set_cons_succ]
    refine wpAnyH_take (i := 5) (oi := ⟨some 13, _, _, _, _, _⟩) (v := ?_) rfl (by kernel_rfl) (by kernel_rfl) (by kernel_rfl) (fun _ _ _ h => h) (Or.inl ⟨by rfl, ?_⟩) (by assumption) ?_
    rotate_left 1
    · (intro w hSw; (try dsimp only at hSw); obtain ⟨hS1, hS2, hS3, hS4, hS5⟩ := hSw; go_simp) <;> (with_reducible rfl)
    try simp only [Act.put, List.setIfInBounds_toArray, List.set_cons_zero, List.set_cons_succ]
    refine wpAnyH_ready (rs := [6]) (by kernel_rfl) (by simp) ?_
    refine AllReadyH.cons (o := ⟨none, _, _, _, _, _⟩) rfl (fun K hK => ?_) AllReadyH.nil
    go_simp
    clear hHeld
    refine hK.out _ _ ?_ (fun hHeld => ?_)
    · exact HSD.out _ (((Fr.refl _ _).drew).trans HF3.out)
    clear hK K
    try simp only [Act.put, List.setIfInBounds_toArray, List.set_cons_zero, List.set_cons_succ]
    refine wpAnyH_done (by kernel_rfl) ?_ _
    go_wp2_with fail
    go_ret
    exact ⟨by rw [← HMB.out]; rfl, ⟨s + 1, Nat.le_refl _, H3.out⟩, ((HF1.out.trans HF2.out).mono fun _ _ e => e.elim).trans (((Fr.refl _ _).drew).trans HF3.out)⟩

def NewF (w : World) (rg la : Int) (e : Ending) (w' : World) : Prop := ∃ g bm, e = .returned (.pointer (some ⟨g, 0, none⟩)) ∧ Fl w' w.heap.size g bm 0 rg la (fun _ => false) ∧ Fr NoBlk w w'
set_option maxRecDepth 100000 in
set_option maxHeartbeats 1000000 in
theorem frestore_any (w : World) (rg la : Int) : Calls Try.prog 27 #[.int .i64 rg, .int .i64 la, .slice none 0 0] w (NewF w rg la) := by
  obtain ⟨w1, hw1⟩ : ∃ w1, w1 = (w.alloc (.map #[] 0)).alloc (.cells #[.int .i64 rg, .int .i64 la, .map (some w.heap.size)] 77) := ⟨_, rfl⟩
  have hsz : (w.alloc (.map #[] 0)).heap.size = w.heap.size + 1 := by rw [World.size_alloc]
  have H1 : Hid (Fl w1 w.heap.size (w.heap.size + 1) w.heap.size 0 rg la (fun _ => false)) := by
    refine ⟨?_, ?_, by omega, Nat.le_refl _⟩
    · rw [hw1, ← hsz]; exact Bk.new _ _ _
    · rw [hw1]
      exact (Kg.new w).fr ((Fr.refl NoBlk _).alloc _) fun e => e
  have HF : Hid (Fr NoBlk w w1) := by show Fr _ _ _; rw [hw1]; exact ((Fr.refl _ _).alloc _).alloc _
  have hmm := @run_makeMap Try.prog
  have HW1 := Lib.hid hw1
  clear hw1 hsz
  go_enter Try.func27, Try.ntmps27
  go_wp2_with fail
  rw [← HW1.out]
  clear hmm HW1
  go_loopw [17] (fun i wr => i = .int .i64 0 ∧ w1 = wr) (fun _ _ => 0)
  case atStart => exact ⟨rfl, rfl⟩
  case round =>
    obtain ⟨rfl, rfl⟩ := hrel
    go_wp2_with fail
    go_ret
    exact ⟨_, _, rfl, H1.out, HF.out⟩
set_option maxRecDepth 100000 in
theorem fregion_any (w : World) (rg : Int) : Calls Try.prog 14 #[.int .i64 rg] w (NewF w rg (-1)) := by
  have HR := Lib.hid (frestore_any w rg (-1))
  go_enter Try.func14, Try.ntmps14
  go_wp2_with fail
  refine HR.out.mono ?_
  rintro e w1 ⟨g, bm, rfl, h, hf⟩
  have H := Lib.hid (And.intro h hf)
  clear h hf
  go_wp2_with fail
  go_ret
  exact ⟨g, bm, rfl, H.out.1, H.out.2⟩
set_option maxRecDepth 100000 in
theorem fglobal_any (w : World) : Calls Try.prog 20 #[] w (NewF w (-1) (-1)) := by
  have HR := Lib.hid (frestore_any w (-1) (-1))
  go_enter Try.func20, Try.ntmps20
  go_wp2_with fail
  refine HR.out.mono ?_
  rintro e w1 ⟨g, bm, rfl, h, hf⟩
  have H := Lib.hid (And.intro h hf)
  clear h hf
  go_wp2_with fail
  go_ret
  exact ⟨g, bm, rfl, H.out.1, H.out.2⟩
set_option maxRecDepth 100000 in
theorem flast_any (w : World) (B g bm s : Nat) (rg la : Int) (m : Tg → Bool) (h : Fl w B g bm s rg la m) :
    Calls Try.prog 17 #[.pointer (some ⟨g, 0, none⟩)] w fun e w' => e = .returned (.int .i64 la) ∧ w = w' := by
  have c1 : w.cell? ⟨g, 1, none⟩ = some (.int .i64 la) := h.bk.cell 1
  clear h
  go_enter Try.func17, Try.ntmps17
  go_wp2_with fail
  go_ret
  exact ⟨rfl, rfl⟩
def tgOf (o : Od) : Tg := ⟨o.node, o.epoch, o.seq, o.tr⟩
def OrdPost (w : World) (B g bm s : Nat) (rg la : Int) (m : Tg → Bool) (o : Od) (e : Ending) (w' : World) : Prop :=
  e = .returned (.bool (!singleOf o && !m (tgOf o))) ∧ (∃ s', s' ≤ s + 1 ∧ Fl w' B g bm s' rg la (if singleOf o then m else addT m (tgOf o))) ∧ Fr (fun b => b = bm) w w'
set_option maxRecDepth 100000 in
set_option maxHeartbeats 1000000 in
theorem forder_any (w : World) (B g bm s : Nat) (rg la : Int) (m : Tg → Bool) (h : Fl w B g bm s rg la m) (hs : s ≤ 100000) (o : Od) (ho : OdIn w o) (hm : o.marks.length ≤ 1000) (ht : TgOk (tgOf o)) :
    Calls Try.prog 22 #[.pointer (some ⟨g, 0, none⟩), odv o] w (OrdPost w B g bm s rg la m o) := by
  obtain ⟨q, hq⟩ : ∃ q, q = w.heap.size := ⟨_, rfl⟩
  obtain ⟨w1, hw1⟩ : ∃ w1, w1 = w.alloc (.cells (oda o) 38) := ⟨_, rfl⟩
  have HF1 : Hid (Fr NoBlk w w1) := by show Fr _ _ _; rw [hw1]; exact (Fr.refl _ _).alloc _
  have HB1 : Hid (Bk w1 q 38 (oda o)) := by show Bk _ _ _ _; rw [hw1, hq]; exact Bk.new _ _ _
  have H1 := Lib.hid (h.nofr HF1.out)
  have HSG := Lib.hid (single_any w1 o (ho.nofr HF1.out) hm)
  have HW1 := Lib.hid hw1
  have HQ := Lib.hid hq
  have HSS := Lib.hid hs
  have HTK := Lib.hid ht
  obtain ⟨b, hb⟩ : ∃ b, b = singleOf o := ⟨_, rfl⟩
  rw [← hb] at HSG
  have HSB := Lib.hid hb
  clear h ho hm ht hw1 hq hs hb
  unfold odv oda at HSG
  unfold oda at HW1 HB1
  unfold odv oda
  go_enter Try.func22, Try.ntmps22
  go_wp2_with fail
  rw [← HW1.out]
  refine HSG.out.mono ?_
  clear HSG
  rintro e w2 ⟨rfl, hf2⟩
  have HF2 := Lib.hid (HF1.out.trans hf2)
  have H2 := Lib.hid (H1.out.nofr hf2)
  have HB2 := Lib.hid (HB1.out.fr hf2 fun e => e)
  clear hf2 H1 HB1 HW1
  rw [← HQ.out]
  cases b with
  | true =>
    go_wp2_with fail
    go_ret
    refine ⟨by rw [← HSB.out]; rfl, ⟨s, by omega, ?_⟩, HF2.out.mono fun _ _ e => e.elim⟩
    rw [← HSB.out]
    exact H2.out
  | false =>
    have c0 : w2.cell? ⟨q, 0, none⟩ = some (.int .i64 o.node) := HB2.out.cell 0
    have c1 : w2.cell? ⟨q, 1, none⟩ = some (.int .u64 (o.epoch : Int)) := HB2.out.cell 1
    have c2 : w2.cell? ⟨q, 2, none⟩ = some (.int .u64 (o.seq : Int)) := HB2.out.cell 2
    have c3 : w2.cell? ⟨q, 3, none⟩ = some (.int .i64 o.tr) := HB2.out.cell 3
    have HFF := Lib.hid (ffirst_any w2 B g bm s rg la m H2.out HSS.out (tgOf o) HTK.out)
    unfold tgv tgOf at HFF
    dsimp only at HFF
    go_wp2_with fail
    refine HFF.out.mono ?_
    clear HFF
    rintro e w3 ⟨rfl, ⟨s', hs', h3⟩, hf3⟩
    have H3 := Lib.hid (And.intro hs' (And.intro h3 hf3))
    clear hs' h3 hf3
    obtain ⟨b2, hb2⟩ : ∃ b2, b2 = m ⟨o.node, o.epoch, o.seq, o.tr⟩ := ⟨_, rfl⟩
    rw [← hb2]
    have HB3 := Lib.hid hb2
    clear hb2
    go_wp2_with fail
    go_ret
    refine ⟨by rw [← HSB.out]; show _ = Ending.returned (.bool (true && !m ⟨o.node, o.epoch, o.seq, o.tr⟩)); rw [← HB3.out]; simp, ⟨s', H3.out.1, ?_⟩, (HF2.out.mono fun _ _ e => e.elim).trans H3.out.2.2⟩
    rw [← HSB.out]
    exact H3.out.2.1
end Go.Proofs.Ytdgjjkmgdjiliaa
