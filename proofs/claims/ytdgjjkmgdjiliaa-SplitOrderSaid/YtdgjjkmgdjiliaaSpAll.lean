/- The document's SameItem; an item's cells. Conditions: the items are small. argosylaw15's same of two lists of items that are alike: true. Conditions: few items, small ones. Split's Next: the first piece behind a place, in new memory. Conditions: few orders, small ones. What split's laws share: pieces are the log's orders; an item that is zero; Next's answer as an item. No condition. -/
import Derived.Test.YtdgjjkmgdjiliaaOSame
import Derived.Test.YtdgjjkmgdjiliaaGr14
import Derived.Test.YtdgjjkmgdjiliaaPcs
namespace Go.Proofs.Ytdgjjkmgdjiliaa
open Go.RowKit

/-- an item lies at an address. -/
structure ICells (w : World) (b o : Nat) (x : Im) : Prop where
  c0 : w.cell? ⟨b, o, none⟩ = some (.int .i64 x.kind)
  c1 : w.cell? ⟨b, o + 1, none⟩ = some (.int .i64 x.index)
  c2 : w.cell? ⟨b, o + 2, none⟩ = some (.int .i64 x.o.node)
  c3 : w.cell? ⟨b, o + 3, none⟩ = some (.int .u64 (x.o.epoch : Int))
  c4 : w.cell? ⟨b, o + 4, none⟩ = some (.int .u64 (x.o.seq : Int))
  c5 : w.cell? ⟨b, o + 5, none⟩ = some (.int .i64 x.o.tr)
  c6 : w.cell? ⟨b, o + 6, none⟩ = some (.int .i64 x.o.t.kind)
  c7 : w.cell? ⟨b, o + 7, none⟩ = some (.slice x.o.t.ra x.o.t.reads.length x.o.t.rc)
  c8 : w.cell? ⟨b, o + 8, none⟩ = some (.slice x.o.t.wa x.o.t.writes.length x.o.t.wc)
  c9 : w.cell? ⟨b, o + 9, none⟩ = some (.slice x.o.t.oa x.o.t.ops.length x.o.t.oc)
  c10 : w.cell? ⟨b, o + 10, none⟩ = some (.int .i64 x.o.t.to)
  c11 : w.cell? ⟨b, o + 11, none⟩ = some (.slice x.o.ma x.o.marks.length x.o.mc)
theorem Rd.icells {w : World} {A : Option Addr} {xs : List Im} (h : Rd w A (imsc xs)) {n : Nat} {i : Im} (hp : xs[n]? = some i) : ∃ b o, A = some ⟨b, o, none⟩ ∧ ICells w b (o + n * 12) i := by
  obtain ⟨b, o, e, hc⟩ := h.item hp
  exact ⟨b, o, e, hc 0 _ rfl, hc 1 _ rfl, hc 2 _ rfl, hc 3 _ rfl, hc 4 _ rfl, hc 5 _ rfl, hc 6 _ rfl, hc 7 _ rfl, hc 8 _ rfl, hc 9 _ rfl, hc 10 _ rfl, hc 11 _ rfl⟩
theorem Bk.icells {w : World} {g : Nat} {T : TypeId} {x : Im} (h : Bk w g T (ima x)) : ICells w g 0 x := ⟨h.cell 0, h.cell 1, h.cell 2, h.cell 3, h.cell 4, h.cell 5, h.cell 6, h.cell 7, h.cell 8, h.cell 9, h.cell 10, h.cell 11⟩
/-- two items are one. -/
def itemSm (a b : Im) : Bool := decide (a.kind = b.kind) && (decide (a.index = b.index) && orderSame a.o b.o)

set_option maxRecDepth 100000 in
set_option maxHeartbeats 1000000 in
theorem sitem_any (w : World) (a b : Im) (ha : OdIn w a.o) (hb : OdIn w b.o) (hs : OSmall a.o) (hs2 : OSmall b.o) :
    Calls Try.prog 40 #[imv a, imv b] w fun e w' => e = .returned (.bool (itemSm a b)) ∧ Fr NoBlk w w' := by
  have HF : Hid (Fr NoBlk w ((w.alloc (.cells (ima a) 40)).alloc (.cells (ima b) 40))) := ((Fr.refl _ _).alloc _).alloc _
  have HK := Lib.hid (osame_any _ a.o b.o (ha.nofr HF.out) (hb.nofr HF.out) hs hs2)
  have HD : Hid (itemSm a b = (decide (a.kind = b.kind) && (decide (a.index = b.index) && orderSame a.o b.o))) := rfl
  clear ha hb hs hs2
  unfold ima at HF HK
  unfold odv oda at HK
  unfold imv ima
  generalize itemSm a b = res at *
  generalize orderSame a.o b.o = b1 at *
  generalize a.kind = ak at *
  generalize b.kind = bk at *
  generalize a.index = ai at *
  generalize b.index = bi at *
  by_cases h1 : ak = bk
  · have g1 : ((ak : Int) == bk) = true := beq_iff_eq.2 h1
    have HD2 := Lib.hid (HD.out.trans (by rw [decide_eq_true h1, Bool.true_and]))
    clear h1
    by_cases h2 : ai = bi
    · have g2 : ((ai : Int) == bi) = true := beq_iff_eq.2 h2
      have HD3 := Lib.hid (HD2.out.trans (by rw [decide_eq_true h2, Bool.true_and]))
      clear h2
      go_enter Try.func40, Try.ntmps40
      go_wp2_with fail
      refine HK.out.mono ?_
      rintro e w1 ⟨rfl, hf1⟩
      have HF1 := Lib.hid (HF.out.trans hf1)
      clear hf1 HK
      go_wp2_with fail
      go_ret
      exact ⟨ret_bool HD3.out.symm, HF1.out⟩
    · have g2 : ((ai : Int) == bi) = false := beq_eq_false_iff_ne.2 h2
      have HD3 := Lib.hid (HD2.out.trans (by rw [decide_eq_false h2, Bool.false_and]))
      clear h2 HK
      go_enter Try.func40, Try.ntmps40
      go_wp2_with fail
      go_ret
      exact ⟨ret_bool HD3.out.symm, HF.out⟩
  · have g1 : ((ak : Int) == bk) = false := beq_eq_false_iff_ne.2 h1
    have HD2 := Lib.hid (HD.out.trans (by rw [decide_eq_false h1, Bool.false_and]))
    clear h1 HK
    go_enter Try.func40, Try.ntmps40
    go_wp2_with fail
    go_ret
    exact ⟨ret_bool HD2.out.symm, HF.out⟩
end Go.Proofs.Ytdgjjkmgdjiliaa

namespace Go.Proofs.Ytdgjjkmgdjiliaa
open Go.RowKit

set_option maxRecDepth 100000 in
set_option maxHeartbeats 2000000 in
theorem same15_any (w : World) (A B : Option Addr) (n ca cb : Nat) (xs ys : List Im) (hx : xs.length = n) (hy : ys.length = n) (hn : n ≤ 1000) (ha : Rd w A (imsc xs)) (hb : Rd w B (imsc ys))
    (ho : ∀ i ∈ xs, OdIn w i.o ∧ OSmall i.o) (hp : ∀ i ∈ ys, OdIn w i.o ∧ OSmall i.o) (hs : ∀ (j : Nat) (x y : Im), xs[j]? = some x → ys[j]? = some y → itemSm x y = true) :
    Calls Try.prog 37 #[.slice A n ca, .slice B n cb] w fun e w' => e = .returned (.bool true) ∧ Fr NoBlk w w' := by
  have HA := Lib.hid ha
  have HB := Lib.hid hb
  have HO := Lib.hid ho
  have HP := Lib.hid hp
  have HS := Lib.hid hs
  have HX := Lib.hid hx
  have HY := Lib.hid hy
  clear ha hb ho hp hs hx hy
  go_enter Try.func37, Try.ntmps37
  go_wp2_with fail
  go_loopw [13] (fun z wr => ∃ i : Nat, i ≤ n ∧ z = .int .i64 i ∧ Hid (Fr NoBlk w wr)) (fun z _ => n - (intOf z).toNat)
  case atStart => exact ⟨0, by omega, rfl, Fr.refl _ _⟩
  case round =>
    obtain ⟨i, hi, rfl, HFW⟩ := hrel
    by_cases hlt : i < n
    · obtain ⟨x, hx⟩ : ∃ x, xs[i]? = some x := ⟨_, List.getElem?_eq_getElem (by rw [HX.out]; exact hlt)⟩
      obtain ⟨y, hy⟩ : ∃ y, ys[i]? = some y := ⟨_, List.getElem?_eq_getElem (by rw [HY.out]; exact hlt)⟩
      obtain ⟨pb, po, rfl, hcx⟩ := (HA.out.nofr HFW.out).icells hx
      obtain ⟨qb, qo, rfl, hcy⟩ := (HB.out.nofr HFW.out).icells hy
      have ho := HO.out x (List.mem_of_getElem? hx)
      have hp := HP.out y (List.mem_of_getElem? hy)
      have HSI : Hid (Calls Try.prog 40 #[imv x, imv y] wr.drew fun e w' => e = .returned (.bool true) ∧ Fr NoBlk wr.drew w') := by
        have h := sitem_any wr.drew x y (ho.1.nofr (HFW.out.trans (Fr.refl _ _).drew)) (hp.1.nofr (HFW.out.trans (Fr.refl _ _).drew)) ho.2 hp.2
        rw [HS.out i x y hx hy] at h
        exact h
      have HC : Hid (∀ W, Fr NoBlk wr W → ICells W pb (po + i * 12) x ∧ ICells W qb (qo + i * 12) y) := fun W hW => by
        obtain ⟨b1, o1, e1, h1⟩ := (HA.out.nofr (HFW.out.trans hW)).icells hx
        obtain ⟨b2, o2, e2, h2⟩ := (HB.out.nofr (HFW.out.trans hW)).icells hy
        injection e1 with e1
        injection e2 with e2
        injection e1 with e1 e3 _
        injection e2 with e2 e4 _
        subst e1 e2 e3 e4
        exact ⟨h1, h2⟩
      have i1 : (0 : Int) ≤ (i : Int) := by omega
      have i2 : (i : Int) < (n : Int) := by omega
      clear hx hy hcx hcy ho hp hlt HA HB
      unfold imv ima at HSI
      go_wp2_with fail
      refine wp_region_held_drew (S := fun w' => ICells w' pb (po + i * 12) x ∧ ICells w' qb (qo + i * 12) y) (by kernel_rfl) (HC.out _ (Fr.refl _ _).drew) (fun hHeld => ?_)
      refine wpAnyH_take (i := 0) (oi := ⟨some 16, _, _, _, _, _⟩) (v := ?_) rfl (by kernel_rfl) (by kernel_rfl) (by kernel_rfl) (fun _ _ _ h => h) (Or.inl ⟨by rfl, ?_⟩) (by assumption) ?_
      rotate_left 1
      · (intro w hSw; (try dsimp only at hSw); obtain ⟨⟨p0, p1, p2, p3, p4, p5, p6, p7, p8, p9, p10, p11⟩, ⟨q0, q1, q2, q3, q4, q5, q6, q7, q8, q9, q10, q11⟩⟩ := hSw; go_simp) <;> (with_reducible rfl)
      try simp only [Act.put, List.setIfInBounds_toArray, List.set_cons_zero, List.set_cons_succ]
      refine wpAnyH_take (i := 1) (oi := ⟨some 17, _, _, _, _, _⟩) (v := ?_) rfl (by kernel_rfl) (by kernel_rfl) (by kernel_rfl) (fun _ _ _ h => h) (Or.inl ⟨by rfl, ?_⟩) (by assumption) ?_
      rotate_left 1
      · (intro w hSw; (try dsimp only at hSw); obtain ⟨⟨p0, p1, p2, p3, p4, p5, p6, p7, p8, p9, p10, p11⟩, ⟨q0, q1, q2, q3, q4, q5, q6, q7, q8, q9, q10, q11⟩⟩ := hSw; go_simp) <;> (with_reducible rfl)
      try simp only [Act.put, List.setIfInBounds_toArray, List.set_cons_zero, List.set_cons_succ]
      refine wpAnyH_take (i := 2) (oi := ⟨some 18, _, _, _, _, _⟩) (v := ?_) rfl (by kernel_rfl) (by kernel_rfl) (by kernel_rfl) (fun _ _ _ h => h) (Or.inl ⟨by rfl, ?_⟩) (by assumption) ?_
      rotate_left 1
      · (intro w hSw; (try dsimp only at hSw); obtain ⟨⟨p0, p1, p2, p3, p4, p5, p6, p7, p8, p9, p10, p11⟩, ⟨q0, q1, q2, q3, q4, q5, q6, q7, q8, q9, q10, q11⟩⟩ := hSw; go_simp) <;> (with_reducible rfl)
      try simp only [Act.put, List.setIfInBounds_toArray, List.set_cons_zero, List.set_cons_succ]
      refine wpAnyH_take (i := 3) (oi := ⟨some 19, _, _, _, _, _⟩) (v := ?_) rfl (by kernel_rfl) (by kernel_rfl) (by kernel_rfl) (fun _ _ _ h => h) (Or.inl ⟨by rfl, ?_⟩) (by assumption) ?_
      rotate_left 1
      · (intro w hSw; (try dsimp only at hSw); obtain ⟨⟨p0, p1, p2, p3, p4, p5, p6, p7, p8, p9, p10, p11⟩, ⟨q0, q1, q2, q3, q4, q5, q6, q7, q8, q9, q10, q11⟩⟩ := hSw; go_simp) <;> (with_reducible rfl)
      try simp only [Act.put, List.setIfInBounds_toArray, List.set_cons_zero, List.set_cons_succ]
      refine wpAnyH_take (i := 4) (oi := ⟨some 20, _, _, _, _, _⟩) (v := ?_) rfl (by kernel_rfl) (by kernel_rfl) (by kernel_rfl) (fun _ _ _ h => h) (Or.inl ⟨by rfl, ?_⟩) (by assumption) ?_
      rotate_left 1
      · (intro w hSw; (try dsimp only at hSw); obtain ⟨⟨p0, p1, p2, p3, p4, p5, p6, p7, p8, p9, p10, p11⟩, ⟨q0, q1, q2, q3, q4, q5, q6, q7, q8, q9, q10, q11⟩⟩ := hSw; go_simp) <;> (with_reducible rfl)
      try simp only [Act.put, List.setIfInBounds_toArray, List.set_cons_zero, List.set_cons_succ]
      refine wpAnyH_take (i := 5) (oi := ⟨some 21, _, _, _, _, _⟩) (v := ?_) rfl (by kernel_rfl) (by kernel_rfl) (by kernel_rfl) (fun _ _ _ h => h) (Or.inl ⟨by rfl, ?_⟩) (by assumption) ?_
      rotate_left 1
      · (intro w hSw; (try dsimp only at hSw); obtain ⟨⟨p0, p1, p2, p3, p4, p5, p6, p7, p8, p9, p10, p11⟩, ⟨q0, q1, q2, q3, q4, q5, q6, q7, q8, q9, q10, q11⟩⟩ := hSw; go_simp) <;> (with_reducible rfl)
      try simp only [Act.put, List.setIfInBounds_toArray, List.set_cons_zero, List.set_cons_succ]
      refine wpAnyH_take (i := 6) (oi := ⟨some 22, _, _, _, _, _⟩) (v := ?_) rfl (by kernel_rfl) (by kernel_rfl) (by kernel_rfl) (fun _ _ _ h => h) (Or.inl ⟨by rfl, ?_⟩) (by assumption) ?_
      rotate_left 1
      · (intro w hSw; (try dsimp only at hSw); obtain ⟨⟨p0, p1, p2, p3, p4, p5, p6, p7, p8, p9, p10, p11⟩, ⟨q0, q1, q2, q3, q4, q5, q6, q7, q8, q9, q10, q11⟩⟩ := hSw; go_simp) <;> (with_reducible rfl)
      try simp only [Act.put, List.setIfInBounds_toArray, List.set_cons_zero, List.set_cons_succ]
      refine wpAnyH_take (i := 7) (oi := ⟨some 23, _, _, _, _, _⟩) (v := ?_) rfl (by kernel_rfl) (by kernel_rfl) (by kernel_rfl) (fun _ _ _ h => h) (Or.inl ⟨by rfl, ?_⟩) (by assumption) ?_
      rotate_left 1
      · (intro w hSw; (try dsimp only at hSw); obtain ⟨⟨p0, p1, p2, p3, p4, p5, p6, p7, p8, p9, p10, p11⟩, ⟨q0, q1, q2, q3, q4, q5, q6, q7, q8, q9, q10, q11⟩⟩ := hSw; go_simp) <;> (with_reducible rfl)
      try simp only [Act.put, List.setIfInBounds_toArray, List.set_cons_zero, List.set_cons_succ]
      refine wpAnyH_ready (rs := [8]) (by kernel_rfl) (by simp) ?_
      refine AllReadyH.cons (o := ⟨some 24, _, _, _, _, _⟩) rfl (fun K hK => ?_) AllReadyH.nil
      go_simp
      go_at_call 40
      refine HSI.out.mono ?_
      clear HSI hHeld
      rintro e w3 ⟨he, hf3⟩
      obtain rfl : e = .returned (.bool true) := he
      have HF3 : Hid (Fr NoBlk wr w3) := (Fr.refl _ _).drew.trans hf3
      clear hf3
      refine hK.out _ _ ?_ (fun hHeld => ?_)
      · exact HC.out _ HF3.out
      clear hK K
      try simp only [Act.put, List.setIfInBounds_toArray, List.set_cons_zero, List.set_cons_succ]
      refine wpAnyH_take (i := 9) (oi := ⟨some 25, _, _, _, _, _⟩) (v := ?_) rfl (by kernel_rfl) (by kernel_rfl) (by kernel_rfl) (fun _ _ _ h => h) (Or.inl ⟨by rfl, ?_⟩) (by assumption) ?_
      rotate_left 1
      · (intro w hSw; (try dsimp only at hSw); obtain ⟨⟨p0, p1, p2, p3, p4, p5, p6, p7, p8, p9, p10, p11⟩, ⟨q0, q1, q2, q3, q4, q5, q6, q7, q8, q9, q10, q11⟩⟩ := hSw; go_simp) <;> (with_reducible rfl)
      try simp only [Act.put, List.setIfInBounds_toArray, List.set_cons_zero, List.set_cons_succ]
      refine wpAnyH_done (by kernel_rfl) ?_ _
      go_wp2_with fail
      go_roundw
      case rel => exact ⟨i + 1, by omega, by go_num, HFW.out.trans HF3.out⟩
      case measure => simp [intOf]; omega
    · have i3 : (n : Int) ≤ (i : Int) := by omega
      go_wp2_with fail
      go_ret
      exact ⟨rfl, HFW.out⟩
end Go.Proofs.Ytdgjjkmgdjiliaa

namespace Go.Proofs.Ytdgjjkmgdjiliaa
open Go.RowKit Go.Shelf Go.Maps
attribute [local go_sem] Oper.semAt_some

theorem results_cells2 {fn : Func} {p q : Tmp} {t u : TypeId} (h : fn.results = #[.cell p t, .cell q u]) (tmps : Array Value) (P : Program) (w : World) :
    (results fn tmps).run P w = ((asAddr (tmps.getD p undef)).run P w).andThen fun a w₁ => ((loadVar t a).run P w₁).andThen fun v w₂ => ((asAddr (tmps.getD q undef)).run P w₂).andThen fun b w₃ => ((loadVar u b).run P w₃).andThen fun y w₄ => .ok (.tuple #[v, y]) w₄ := by
  simp only [results, h]
  simp [Sem.run_bind, Result.andThen]
/-- is a piece behind a place? -/
def behindB (la : Int) (p : Pc) : Bool := decide (la < (p.1 : Int))
theorem find_done {ps : List Pc} {la : Int} (h : ∀ p ∈ ps, (p.1 : Int) ≤ la) : ps.find? (behindB la) = none := List.find?_eq_none.2 fun p hp => by simpa [behindB] using h p hp
/-- no piece told so far lies behind a place. -/
def AllLe {xs : List Od} (la : Int) (pre : List (PcX xs)) : Prop := ∀ x ∈ pre, (x.1.1 : Int) ≤ la
theorem find_stop {ps pre : List Pc} {p : Pc} {la : Int} (hp : pre ++ [p] <+: ps) (h : ∀ q ∈ pre, (q.1 : Int) ≤ la) (hx : la < (p.1 : Int)) : ps.find? (behindB la) = some p := by
  obtain ⟨r, rfl⟩ := hp
  rw [List.find?_append, List.find?_append, find_done h]
  simp [behindB, hx]
theorem keeps_of_fr {D : Nat → Prop} {W W' : World} (h : Fr D W W') (hD : ∀ i, D i → ∃ cs T, Bk W i T cs) : KeepsOthers W W' := ⟨h.size, fun k o hk hc => by
  refine (h.block k (Array.getElem?_eq_some_iff.1 hk).1 fun e => ?_).trans hk
  obtain ⟨cs, T, h1⟩ := hD k e
  unfold Bk at h1
  rw [hk] at h1
  injection h1 with h1
  subst h1
  cases hc⟩
structure NxAt (w : World) (gl : Nat) (la : Int) (cs : Array Value) (b : Bool) (W : World) : Prop where
  l : Bk W gl 3 #[.int .i64 la]
  i : Bk W (gl + 1) 40 cs
  b : Bk W (gl + 1 + 1) 4 #[.bool b]
  fr : Fr NoBlk w W
theorem bk_others {W W' : World} {g : Nat} {T : TypeId} {cs : Array Value} {row : Option Nat} (h : Bk W g T cs) (hg : W.grownBy W' row) (hr : ∀ r, row = some r → ∃ o : Obj, W.heap[r]? = some o ∧ o.isCells = false) : Bk W' g T cs := by
  refine (hg.block g h.lt fun e => ?_).trans h
  obtain ⟨o, ho, hc⟩ := hr g e.symm
  unfold Bk at h
  rw [h] at ho
  injection ho with ho
  subst ho
  cases hc
theorem NxAt.others {w W W' : World} {gl : Nat} {la : Int} {cs : Array Value} {b : Bool} {row : Option Nat} (h : NxAt w gl la cs b W) (hg : W.grownBy W' row) (hr : ∀ r, row = some r → w.heap.size ≤ r ∧ ∃ o : Obj, W.heap[r]? = some o ∧ o.isCells = false) : NxAt w gl la cs b W' :=
  ⟨bk_others h.l hg fun r e => (hr r e).2, bk_others h.i hg fun r e => (hr r e).2, bk_others h.b hg fun r e => (hr r e).2, h.fr.step (Fr.ofGrown hg) fun i hi e => by have := (hr i e.symm).1; omega⟩
/-- what Next tells. -/
def NextPost (w : World) (ps : List Pc) (la : Int) (e : Ending) (w' : World) : Prop := ∃ v b, e = .returned (.tuple #[v, .bool b]) ∧ Fr NoBlk w w' ∧
  ((b = true ∧ ∃ it p, v = imv it ∧ ps.find? (behindB la) = some p ∧ ItOf w' w.heap.size it p) ∨ (b = false ∧ v = .agg izero ∧ ps.find? (behindB la) = none))

set_option maxRecDepth 100000 in
set_option maxHeartbeats 2000000 in
theorem snext_any (w : World) (A : Option Addr) (c : Nat) (xs : List Od) (rg la : Int) (hL : LogIn w A xs) (hs : ∀ o ∈ xs, OSmall o) :
    Calls Try.prog 39 #[.slice A xs.length c, .int .i64 rg, .int .i64 la] w (NextPost w (pcs rg xs xs.length) la) := by
  have HL := Lib.hid hL
  have HS := Lib.hid hs
  clear hL hs
  refine (callsIn_wide (n := 9)).1 ?_
  refine callsIn_of_wp_marks Try.func39 rfl trivial ?_ rfl
  simp only [Try.ntmps39, List.size_toArray, List.length_cons, List.length_nil, Nat.reduceAdd, Nat.reduceSub, Array.replicate_succ, Array.replicate_zero, List.push_toArray, List.append_toArray, List.nil_append, List.cons_append]
  gi_wp2
  refine ⟨trivial, (callsIn_wide.2 (pieces_any _ A xs.length c rg)).mono ?_⟩
  rintro e w5 ⟨rfl, hw5⟩
  obtain ⟨gl, hgl⟩ : ∃ gl, gl = w.heap.size := ⟨_, rfl⟩
  have hs1 : (w.alloc (.cells #[.int .i64 la] 3)).heap.size = gl + 1 := by rw [World.size_alloc, hgl]
  have hs2 : ((w.alloc (.cells #[.int .i64 la] 3)).alloc (.cells #[.int .i64 0, .int .i64 0, .int .i64 0, .int .u64 0, .int .u64 0, .int .i64 0, .int .i64 0, .slice none 0 0, .slice none 0 0, .slice none 0 0, .int .i64 0, .slice none 0 0] 40)).heap.size = gl + 1 + 1 := by rw [World.size_alloc, hs1]
  have hs3 : (((w.alloc (.cells #[.int .i64 la] 3)).alloc (.cells #[.int .i64 0, .int .i64 0, .int .i64 0, .int .u64 0, .int .u64 0, .int .i64 0, .int .i64 0, .slice none 0 0, .slice none 0 0, .slice none 0 0, .int .i64 0, .slice none 0 0] 40)).alloc (.cells #[.bool false] 4)).heap.size = gl + 1 + 1 + 1 := by rw [World.size_alloc, hs2]
  have hs4 : ((((w.alloc (.cells #[.int .i64 la] 3)).alloc (.cells #[.int .i64 0, .int .i64 0, .int .i64 0, .int .u64 0, .int .u64 0, .int .i64 0, .int .i64 0, .slice none 0 0, .slice none 0 0, .slice none 0 0, .int .i64 0, .slice none 0 0] 40)).alloc (.cells #[.bool false] 4)).alloc (.cells #[.slice A xs.length c] 47)).heap.size = gl + 1 + 1 + 1 + 1 := by rw [World.size_alloc, hs3]
  rw [hs3]
  have hf5 : Fr NoBlk w w5 := by rw [hw5]; exact (((((Fr.refl NoBlk w).alloc _).alloc _).alloc _).alloc _).alloc _
  have HI0 : Hid (NxAt w gl la izero false w5) := by
    refine ⟨?_, ?_, ?_, hf5⟩
    · rw [hw5, hgl]; exact ((((Bk.new _ _ _).alloc _).alloc _).alloc _).alloc _
    · rw [hw5, ← hs1]; exact (((Bk.new _ _ _).alloc _).alloc _).alloc _
    · rw [hw5, ← hs2]; exact ((Bk.new _ _ _).alloc _).alloc _
  have hb1 : Bk w5 (gl + 1 + 1 + 1) 47 #[.slice A xs.length c] := by rw [hw5, ← hs3]; exact (Bk.new _ _ _).alloc _
  have hb2 : Bk w5 (gl + 1 + 1 + 1 + 1) 3 #[.int .i64 rg] := by rw [hw5, ← hs4]; exact Bk.new _ _ _
  have HGE : Hid (w.heap.size = gl ∧ w5.heap.size = gl + 5) := ⟨hgl.symm, by rw [hw5, World.size_alloc, hs4]⟩
  have HST := Lib.hid (pieces1_in 8 (gl + 1 + 1 + 1) (gl + 1 + 1 + 1 + 1) (by omega) (fun _ => False) rg A c xs w w5 hf5 (fun i e => e.elim) HL.out.1 HL.out.2.1 HL.out.2.2 hb1 hb2 (fun e => e))
  rw [← hgl]
  clear hf5 hgl hs1 hs2 hs3 hs4 hw5 hb1 hb2
  gi_wp2
  refine wpIn_rangeFunc_ownH rfl (by omega) (gf := 65) (lb := #[.pointer (some ⟨gl + 1 + 1 + 1, 0, none⟩), .pointer (some ⟨gl + 1 + 1 + 1 + 1, 0, none⟩)]) rfl trivial (enters_of Try.func65 (by kernel_rfl) rfl)
    HST.out (fun h k => h.t k) (KpS.b (Nat.le_refl _)) (Below.refl _ _) (fun _ => rfl)
    (fun (pre : List (PcX xs)) W => AllLe la pre ∧ NxAt w gl la izero false W)
    (fun cd (pre : List (PcX xs)) W => cd = .ret ∧ ∃ (pre' : List (PcX xs)) (x : PcX xs) (b : Od), pre = pre' ++ [x] ∧ AllLe la pre' ∧ la < (x.1.1 : Int) ∧ NxAt w gl la (ima ⟨2, x.1.1, b⟩) true W ∧ ItOf W w.heap.size ⟨2, x.1.1, b⟩ x.1)
    (fun s W W' row hs hg hr => ⟨hs.1, hs.2.others hg fun r e => ⟨by have := (hr r e).1; have := HGE.out; omega, (hr r e).2⟩⟩)
    (fun _ s W W' row hs hg hr => by
      obtain ⟨h1, pre', x, b, h2, h3, h4, h5, h6⟩ := hs
      exact ⟨h1, pre', x, b, h2, h3, h4, h5.others hg fun r e => ⟨by have := (hr r e).1; have := HGE.out; omega, (hr r e).2⟩, h6.others hg fun r e => (hr r e).2⟩)
    ⟨fun x hx => (by cases hx), HI0.out⟩
    (fun x a' W => ∃ q, a' = { tmps := #[.slice A xs.length c, .int .i64 rg, .int .i64 la, undef, undef, .pointer (some ⟨gl, 0, none⟩), .pointer (some ⟨gl + 1, 0, none⟩), .pointer (some ⟨gl + 1 + 1, 0, none⟩), .pointer (some ⟨q, 0, none⟩), .slice A xs.length c, .int .i64 rg, .func (.func 65) #[] #[.pointer (some ⟨gl + 1 + 1 + 1, 0, none⟩), .pointer (some ⟨gl + 1 + 1 + 1 + 1, 0, none⟩)], imv ⟨2, x.1.1, x.1.2⟩, undef, undef, undef, undef, undef, undef, undef], defers := [] } ∧ Bk W q 40 (ima ⟨2, x.1.1, x.1.2⟩))
    (fun x a' _ W W' row hs hg hr => by
      obtain ⟨q, e, hb⟩ := hs
      exact ⟨q, e, bk_others hb hg fun r e => (hr r e).2⟩) ?assign ?body ?done ?stop
  case assign =>
    intro l' pre x W K hI hK
    have HI := Lib.hid hI
    have HKK := Lib.hid hK
    clear hI hK
    simp [encP, imv, ima]
    gi_wp2
    exact HKK.out _ _ ((KeepsOthers.alloc _ _).from _) ((Fr.refl _ _).alloc _) ⟨HI.out.1, HI.out.2.others (World.grownBy_alloc W _ none) fun r e => by cases e⟩ ⟨W.heap.size, rfl, Bk.new _ _ _⟩
  case body =>
    rintro l' pre x a' W hll hlo ⟨hpre, hI⟩ ⟨q, rfl, hq⟩ hlen
    have HI := Lib.hid hI
    have HPRE := Lib.hid hpre
    have HQ : Hid (Bk W q 40 #[.int .i64 2, .int .i64 (x.1.1 : Int), .int .i64 x.1.2.node, .int .u64 (x.1.2.epoch : Int), .int .u64 (x.1.2.seq : Int), .int .i64 x.1.2.tr, .int .i64 x.1.2.t.kind, .slice x.1.2.t.ra x.1.2.t.reads.length x.1.2.t.rc, .slice x.1.2.t.wa x.1.2.t.writes.length x.1.2.t.wc, .slice x.1.2.t.oa x.1.2.t.ops.length x.1.2.t.oc, .int .i64 x.1.2.t.to, .slice x.1.2.ma x.1.2.marks.length x.1.2.mc]) := hq
    have c0 : W.cell? ⟨gl, 0, none⟩ = some (.int .i64 la) := hI.l.cell 0
    have d0 : W.cell? ⟨q, 0, none⟩ = some (.int .i64 2) := HQ.out.cell 0
    have d1 : W.cell? ⟨q, 1, none⟩ = some (.int .i64 (x.1.1 : Int)) := HQ.out.cell 1
    have d2 : W.cell? ⟨q, 2, none⟩ = some (.int .i64 x.1.2.node) := HQ.out.cell 2
    have d3 : W.cell? ⟨q, 3, none⟩ = some (.int .u64 (x.1.2.epoch : Int)) := HQ.out.cell 3
    have d4 : W.cell? ⟨q, 4, none⟩ = some (.int .u64 (x.1.2.seq : Int)) := HQ.out.cell 4
    have d5 : W.cell? ⟨q, 5, none⟩ = some (.int .i64 x.1.2.tr) := HQ.out.cell 5
    have d6 : W.cell? ⟨q, 6, none⟩ = some (.int .i64 x.1.2.t.kind) := HQ.out.cell 6
    have d7 : W.cell? ⟨q, 7, none⟩ = some (.slice x.1.2.t.ra x.1.2.t.reads.length x.1.2.t.rc) := HQ.out.cell 7
    have d8 : W.cell? ⟨q, 8, none⟩ = some (.slice x.1.2.t.wa x.1.2.t.writes.length x.1.2.t.wc) := HQ.out.cell 8
    have d9 : W.cell? ⟨q, 9, none⟩ = some (.slice x.1.2.t.oa x.1.2.t.ops.length x.1.2.t.oc) := HQ.out.cell 9
    have d10 : W.cell? ⟨q, 10, none⟩ = some (.int .i64 x.1.2.t.to) := HQ.out.cell 10
    have d11 : W.cell? ⟨q, 11, none⟩ = some (.slice x.1.2.ma x.1.2.marks.length x.1.2.mc) := HQ.out.cell 11
    unfold imv ima
    dsimp only
    clear hI hpre hq hlen hll hlo
    by_cases hlt : la < (x.1.1 : Int)
    rotate_left
    · have hge : (x.1.1 : Int) ≤ la := by omega
      have HLT := Lib.hid hlt
      clear hlt
      gi_wp2
      refine ⟨(KeepsOthers.refl _).from _, Fr.refl _ _, ?_, HI.out⟩
      intro y hy
      rcases List.mem_append.1 hy with hy | hy
      · exact HPRE.out y hy
      · rw [List.mem_singleton.1 hy]
        exact HLT.out
    have hx := List.mem_of_getElem? x.2
    have HC := Lib.hid (copied_any W ⟨2, x.1.1, x.1.2⟩ ((HL.out.nofr HI.out.fr).2.1 _ hx).1 (HS.out _ hx))
    clear hx
    unfold imv ima at HC
    dsimp only at HC
    gi_wp2
    refine ⟨trivial, (CallsIn.inRound l' (callsIn_wide.2 HC.out)).mono ?_⟩
    rintro e W3 ⟨b, rfl, hcp⟩
    have HCP := Lib.hid hcp
    have HBI : Hid (Bk W3 (gl + 1) 40 izero) := HI.out.i.fr hcp.fr fun h => h
    have HBB : Hid (Bk W3 (gl + 1 + 1) 4 #[.bool false]) := HI.out.b.fr hcp.fr fun h => h
    have HBL : Hid (Bk W3 gl 3 #[.int .i64 la]) := HI.out.l.fr hcp.fr fun h => h
    obtain ⟨W4, hW4⟩ : ∃ W4, W4 = ((((((((((((W3).setCell ⟨gl + 1, 0, none⟩ (.int .i64 2)).setCell ⟨gl + 1, 1, none⟩ (.int .i64 (x.1.1 : Int))).setCell ⟨gl + 1, 2, none⟩ (.int .i64 b.node)).setCell ⟨gl + 1, 3, none⟩ (.int .u64 (b.epoch : Int))).setCell ⟨gl + 1, 4, none⟩ (.int .u64 (b.seq : Int))).setCell ⟨gl + 1, 5, none⟩ (.int .i64 b.tr)).setCell ⟨gl + 1, 6, none⟩ (.int .i64 b.t.kind)).setCell ⟨gl + 1, 7, none⟩ (.slice b.t.ra b.t.reads.length b.t.rc)).setCell ⟨gl + 1, 8, none⟩ (.slice b.t.wa b.t.writes.length b.t.wc)).setCell ⟨gl + 1, 9, none⟩ (.slice b.t.oa b.t.ops.length b.t.oc)).setCell ⟨gl + 1, 10, none⟩ (.int .i64 b.t.to)).setCell ⟨gl + 1, 11, none⟩ (.slice b.ma b.marks.length b.mc) := ⟨_, rfl⟩
    have HX4 : Hid (Fr (fun k => k = gl + 1) W3 W4) := by
      show Fr _ _ _
      rw [hW4]
      exact ((((((((((((Fr.refl (fun k => k = gl + 1) W3).setCell (p := ⟨gl + 1, 0, none⟩) (fun _ => rfl) _).setCell (p := ⟨gl + 1, 1, none⟩) (fun _ => rfl) _).setCell (p := ⟨gl + 1, 2, none⟩) (fun _ => rfl) _).setCell (p := ⟨gl + 1, 3, none⟩) (fun _ => rfl) _).setCell (p := ⟨gl + 1, 4, none⟩) (fun _ => rfl) _).setCell (p := ⟨gl + 1, 5, none⟩) (fun _ => rfl) _).setCell (p := ⟨gl + 1, 6, none⟩) (fun _ => rfl) _).setCell (p := ⟨gl + 1, 7, none⟩) (fun _ => rfl) _).setCell (p := ⟨gl + 1, 8, none⟩) (fun _ => rfl) _).setCell (p := ⟨gl + 1, 9, none⟩) (fun _ => rfl) _).setCell (p := ⟨gl + 1, 10, none⟩) (fun _ => rfl) _).setCell (p := ⟨gl + 1, 11, none⟩) (fun _ => rfl) _
    have HB4 : Hid (Bk W4 (gl + 1) 40 #[.int .i64 2, .int .i64 (x.1.1 : Int), .int .i64 b.node, .int .u64 (b.epoch : Int), .int .u64 (b.seq : Int), .int .i64 b.tr, .int .i64 b.t.kind, .slice b.t.ra b.t.reads.length b.t.rc, .slice b.t.wa b.t.writes.length b.t.wc, .slice b.t.oa b.t.ops.length b.t.oc, .int .i64 b.t.to, .slice b.ma b.marks.length b.mc]) := by
      show Bk _ _ _ _
      rw [hW4]
      refine Bk.cast (((((((((((((HBI.out).put 0 (.int .i64 2)).put 1 (.int .i64 (x.1.1 : Int))).put 2 (.int .i64 b.node)).put 3 (.int .u64 (b.epoch : Int))).put 4 (.int .u64 (b.seq : Int))).put 5 (.int .i64 b.tr)).put 6 (.int .i64 b.t.kind)).put 7 (.slice b.t.ra b.t.reads.length b.t.rc)).put 8 (.slice b.t.wa b.t.writes.length b.t.wc)).put 9 (.slice b.t.oa b.t.ops.length b.t.oc)).put 10 (.int .i64 b.t.to)).put 11 (.slice b.ma b.marks.length b.mc)) ?_
      unfold izero
      simp only [List.setIfInBounds_toArray, List.set_cons_zero, List.set_cons_succ]
    have HBB4 : Hid (Bk W4 (gl + 1 + 1) 4 #[.bool false]) := HBB.out.fr HX4.out (by omega)
    have cb : (((((((((((((W3).setCell ⟨gl + 1, 0, none⟩ (.int .i64 2)).setCell ⟨gl + 1, 1, none⟩ (.int .i64 (x.1.1 : Int))).setCell ⟨gl + 1, 2, none⟩ (.int .i64 b.node)).setCell ⟨gl + 1, 3, none⟩ (.int .u64 (b.epoch : Int))).setCell ⟨gl + 1, 4, none⟩ (.int .u64 (b.seq : Int))).setCell ⟨gl + 1, 5, none⟩ (.int .i64 b.tr)).setCell ⟨gl + 1, 6, none⟩ (.int .i64 b.t.kind)).setCell ⟨gl + 1, 7, none⟩ (.slice b.t.ra b.t.reads.length b.t.rc)).setCell ⟨gl + 1, 8, none⟩ (.slice b.t.wa b.t.writes.length b.t.wc)).setCell ⟨gl + 1, 9, none⟩ (.slice b.t.oa b.t.ops.length b.t.oc)).setCell ⟨gl + 1, 10, none⟩ (.int .i64 b.t.to)).setCell ⟨gl + 1, 11, none⟩ (.slice b.ma b.marks.length b.mc)).cell? ⟨gl + 1 + 1, 0, none⟩ = some (.bool false) := by rw [← hW4]; exact HBB4.out.cell 0
    have fb : (((((((((((((W3).setCell ⟨gl + 1, 0, none⟩ (.int .i64 2)).setCell ⟨gl + 1, 1, none⟩ (.int .i64 (x.1.1 : Int))).setCell ⟨gl + 1, 2, none⟩ (.int .i64 b.node)).setCell ⟨gl + 1, 3, none⟩ (.int .u64 (b.epoch : Int))).setCell ⟨gl + 1, 4, none⟩ (.int .u64 (b.seq : Int))).setCell ⟨gl + 1, 5, none⟩ (.int .i64 b.tr)).setCell ⟨gl + 1, 6, none⟩ (.int .i64 b.t.kind)).setCell ⟨gl + 1, 7, none⟩ (.slice b.t.ra b.t.reads.length b.t.rc)).setCell ⟨gl + 1, 8, none⟩ (.slice b.t.wa b.t.writes.length b.t.wc)).setCell ⟨gl + 1, 9, none⟩ (.slice b.t.oa b.t.ops.length b.t.oc)).setCell ⟨gl + 1, 10, none⟩ (.int .i64 b.t.to)).setCell ⟨gl + 1, 11, none⟩ (.slice b.ma b.marks.length b.mc)).frozen? ⟨gl + 1 + 1, 0, none⟩ = false := by rw [← hW4]; exact HBB4.out.free 0
    have HW4 := Lib.hid hW4
    have q0 : W3.cell? ⟨gl + 1, 0, none⟩ = some (.int .i64 0) := HBI.out.cell 0
    have q1 : W3.cell? ⟨gl + 1, 1, none⟩ = some (.int .i64 0) := HBI.out.cell 1
    have q2 : W3.cell? ⟨gl + 1, 2, none⟩ = some (.int .i64 0) := HBI.out.cell 2
    have q3 : W3.cell? ⟨gl + 1, 3, none⟩ = some (.int .u64 0) := HBI.out.cell 3
    have q4 : W3.cell? ⟨gl + 1, 4, none⟩ = some (.int .u64 0) := HBI.out.cell 4
    have q5 : W3.cell? ⟨gl + 1, 5, none⟩ = some (.int .i64 0) := HBI.out.cell 5
    have q6 : W3.cell? ⟨gl + 1, 6, none⟩ = some (.int .i64 0) := HBI.out.cell 6
    have q7 : W3.cell? ⟨gl + 1, 7, none⟩ = some (.slice none 0 0) := HBI.out.cell 7
    have q8 : W3.cell? ⟨gl + 1, 8, none⟩ = some (.slice none 0 0) := HBI.out.cell 8
    have q9 : W3.cell? ⟨gl + 1, 9, none⟩ = some (.slice none 0 0) := HBI.out.cell 9
    have q10 : W3.cell? ⟨gl + 1, 10, none⟩ = some (.int .i64 0) := HBI.out.cell 10
    have q11 : W3.cell? ⟨gl + 1, 11, none⟩ = some (.slice none 0 0) := HBI.out.cell 11
    have f0 := HBI.out.free 0
    have f1 := HBI.out.free 1
    have f2 := HBI.out.free 2
    have f3 := HBI.out.free 3
    have f4 := HBI.out.free 4
    have f5 := HBI.out.free 5
    have f6 := HBI.out.free 6
    have f7 := HBI.out.free 7
    have f8 := HBI.out.free 8
    have f9 := HBI.out.free 9
    have f10 := HBI.out.free 10
    have f11 := HBI.out.free 11
    clear hcp hW4 d0 d1 d2 d3 d4 d5 d6 d7 d8 d9 d10 d11 c0
    gi_wp2
    rw [← HW4.out]
    clear HW4 cb fb q0 q1 q2 q3 q4 q5 q6 q7 q8 q9 q10 q11 f0 f1 f2 f3 f4 f5 f6 f7 f8 f9 f10 f11
    have hfs : Fr (fun i => i = gl + 1 + 1) W4 (W4.setCell ⟨gl + 1 + 1, 0, none⟩ (.bool true)) := (Fr.refl (fun i => i = gl + 1 + 1) W4).setCell (p := ⟨gl + 1 + 1, 0, none⟩) (fun _ => rfl) _
    have hall : Fr (fun i => i = gl + 1 ∨ i = gl + 1 + 1) W (W4.setCell ⟨gl + 1 + 1, 0, none⟩ (.bool true)) := ((HCP.out.fr.mono (D := fun i => i = gl + 1 ∨ i = gl + 1 + 1) fun _ _ h => h.elim).step HX4.out fun _ _ e => .inl e).step hfs fun _ _ e => .inr e
    have hit : ItOf W3 w.heap.size ⟨2, x.1.1, b⟩ x.1 := ⟨rfl, rfl, HCP.out.like, HCP.out.inn, HCP.out.own.mono (by have := HI.out.fr.size; omega), HCP.out.ownm.mono (by have := HI.out.fr.size; omega)⟩
    refine ⟨(keeps_of_fr hall fun i e => ?_).from _, rfl, pre, x, b, rfl, HPRE.out, hlt, ⟨?_, ?_, ?_, HI.out.fr.step hall fun i hi e => by have := HGE.out; omega⟩, ?_⟩
    · rcases e with rfl | rfl
      · exact ⟨_, _, HI.out.i⟩
      · exact ⟨_, _, HI.out.b⟩
    · exact (HBL.out.fr HX4.out (by omega)).fr hfs (by omega)
    · exact HB4.out.fr hfs (by omega)
    · have h := HBB4.out.put 0 (.bool true)
      simpa using h
    · exact (hit.frV HX4.out HBI.out (by decide) (by decide) (by decide) (by decide)).frV hfs HBB4.out (by decide) (by decide) (by decide) (by decide)
  case done =>
    rintro D ys W hD hS ⟨hpre, hI⟩ hK
    have HD := Lib.hid hD
    have HSD := Lib.hid hS
    have HI := Lib.hid hI
    have HPRE := Lib.hid hpre
    have HKD := Lib.hid hK
    obtain ⟨W4, hW4⟩ : ∃ W4, W4 = ((((((((((((W).setCell ⟨gl + 1, 0, none⟩ (.int .i64 0)).setCell ⟨gl + 1, 1, none⟩ (.int .i64 0)).setCell ⟨gl + 1, 2, none⟩ (.int .i64 0)).setCell ⟨gl + 1, 3, none⟩ (.int .u64 0)).setCell ⟨gl + 1, 4, none⟩ (.int .u64 0)).setCell ⟨gl + 1, 5, none⟩ (.int .i64 0)).setCell ⟨gl + 1, 6, none⟩ (.int .i64 0)).setCell ⟨gl + 1, 7, none⟩ (.slice none 0 0)).setCell ⟨gl + 1, 8, none⟩ (.slice none 0 0)).setCell ⟨gl + 1, 9, none⟩ (.slice none 0 0)).setCell ⟨gl + 1, 10, none⟩ (.int .i64 0)).setCell ⟨gl + 1, 11, none⟩ (.slice none 0 0) := ⟨_, rfl⟩
    have HX4 : Hid (Fr (fun k => k = gl + 1) W W4) := by
      show Fr _ _ _
      rw [hW4]
      exact ((((((((((((Fr.refl (fun k => k = gl + 1) W).setCell (p := ⟨gl + 1, 0, none⟩) (fun _ => rfl) _).setCell (p := ⟨gl + 1, 1, none⟩) (fun _ => rfl) _).setCell (p := ⟨gl + 1, 2, none⟩) (fun _ => rfl) _).setCell (p := ⟨gl + 1, 3, none⟩) (fun _ => rfl) _).setCell (p := ⟨gl + 1, 4, none⟩) (fun _ => rfl) _).setCell (p := ⟨gl + 1, 5, none⟩) (fun _ => rfl) _).setCell (p := ⟨gl + 1, 6, none⟩) (fun _ => rfl) _).setCell (p := ⟨gl + 1, 7, none⟩) (fun _ => rfl) _).setCell (p := ⟨gl + 1, 8, none⟩) (fun _ => rfl) _).setCell (p := ⟨gl + 1, 9, none⟩) (fun _ => rfl) _).setCell (p := ⟨gl + 1, 10, none⟩) (fun _ => rfl) _).setCell (p := ⟨gl + 1, 11, none⟩) (fun _ => rfl) _
    have HB4 : Hid (Bk W4 (gl + 1) 40 izero) := by
      show Bk _ _ _ _
      rw [hW4]
      refine Bk.cast (((((((((((((HI.out.i).put 0 (.int .i64 0)).put 1 (.int .i64 0)).put 2 (.int .i64 0)).put 3 (.int .u64 0)).put 4 (.int .u64 0)).put 5 (.int .i64 0)).put 6 (.int .i64 0)).put 7 (.slice none 0 0)).put 8 (.slice none 0 0)).put 9 (.slice none 0 0)).put 10 (.int .i64 0)).put 11 (.slice none 0 0)) ?_
      unfold izero
      simp only [List.setIfInBounds_toArray, List.set_cons_zero, List.set_cons_succ]
    have HBB4 : Hid (Bk W4 (gl + 1 + 1) 4 #[.bool false]) := HI.out.b.fr HX4.out (by omega)
    have cb : (((((((((((((W).setCell ⟨gl + 1, 0, none⟩ (.int .i64 0)).setCell ⟨gl + 1, 1, none⟩ (.int .i64 0)).setCell ⟨gl + 1, 2, none⟩ (.int .i64 0)).setCell ⟨gl + 1, 3, none⟩ (.int .u64 0)).setCell ⟨gl + 1, 4, none⟩ (.int .u64 0)).setCell ⟨gl + 1, 5, none⟩ (.int .i64 0)).setCell ⟨gl + 1, 6, none⟩ (.int .i64 0)).setCell ⟨gl + 1, 7, none⟩ (.slice none 0 0)).setCell ⟨gl + 1, 8, none⟩ (.slice none 0 0)).setCell ⟨gl + 1, 9, none⟩ (.slice none 0 0)).setCell ⟨gl + 1, 10, none⟩ (.int .i64 0)).setCell ⟨gl + 1, 11, none⟩ (.slice none 0 0)).cell? ⟨gl + 1 + 1, 0, none⟩ = some (.bool false) := by rw [← hW4]; exact HBB4.out.cell 0
    have fb : (((((((((((((W).setCell ⟨gl + 1, 0, none⟩ (.int .i64 0)).setCell ⟨gl + 1, 1, none⟩ (.int .i64 0)).setCell ⟨gl + 1, 2, none⟩ (.int .i64 0)).setCell ⟨gl + 1, 3, none⟩ (.int .u64 0)).setCell ⟨gl + 1, 4, none⟩ (.int .u64 0)).setCell ⟨gl + 1, 5, none⟩ (.int .i64 0)).setCell ⟨gl + 1, 6, none⟩ (.int .i64 0)).setCell ⟨gl + 1, 7, none⟩ (.slice none 0 0)).setCell ⟨gl + 1, 8, none⟩ (.slice none 0 0)).setCell ⟨gl + 1, 9, none⟩ (.slice none 0 0)).setCell ⟨gl + 1, 10, none⟩ (.int .i64 0)).setCell ⟨gl + 1, 11, none⟩ (.slice none 0 0)).frozen? ⟨gl + 1 + 1, 0, none⟩ = false := by rw [← hW4]; exact HBB4.out.free 0
    have HW4 := Lib.hid hW4
    have q0 : W.cell? ⟨gl + 1, 0, none⟩ = some (.int .i64 0) := HI.out.i.cell 0
    have q1 : W.cell? ⟨gl + 1, 1, none⟩ = some (.int .i64 0) := HI.out.i.cell 1
    have q2 : W.cell? ⟨gl + 1, 2, none⟩ = some (.int .i64 0) := HI.out.i.cell 2
    have q3 : W.cell? ⟨gl + 1, 3, none⟩ = some (.int .u64 0) := HI.out.i.cell 3
    have q4 : W.cell? ⟨gl + 1, 4, none⟩ = some (.int .u64 0) := HI.out.i.cell 4
    have q5 : W.cell? ⟨gl + 1, 5, none⟩ = some (.int .i64 0) := HI.out.i.cell 5
    have q6 : W.cell? ⟨gl + 1, 6, none⟩ = some (.int .i64 0) := HI.out.i.cell 6
    have q7 : W.cell? ⟨gl + 1, 7, none⟩ = some (.slice none 0 0) := HI.out.i.cell 7
    have q8 : W.cell? ⟨gl + 1, 8, none⟩ = some (.slice none 0 0) := HI.out.i.cell 8
    have q9 : W.cell? ⟨gl + 1, 9, none⟩ = some (.slice none 0 0) := HI.out.i.cell 9
    have q10 : W.cell? ⟨gl + 1, 10, none⟩ = some (.int .i64 0) := HI.out.i.cell 10
    have q11 : W.cell? ⟨gl + 1, 11, none⟩ = some (.slice none 0 0) := HI.out.i.cell 11
    have f0 := HI.out.i.free 0
    have f1 := HI.out.i.free 1
    have f2 := HI.out.i.free 2
    have f3 := HI.out.i.free 3
    have f4 := HI.out.i.free 4
    have f5 := HI.out.i.free 5
    have f6 := HI.out.i.free 6
    have f7 := HI.out.i.free 7
    have f8 := HI.out.i.free 8
    have f9 := HI.out.i.free 9
    have f10 := HI.out.i.free 10
    have f11 := HI.out.i.free 11
    have hne : ∀ g T cs, Bk W g T cs → g ≠ D := fun g T cs h e => by
      have h2 := HKD.out
      unfold Bk at h
      rw [e, h2] at h
      cases h
    have hna := hne _ _ _ HI.out.i
    have hnb := hne _ _ _ HI.out.b
    have HNE := Lib.hid (And.intro hna hnb)
    have HKD4 : Hid (W4.heap[D]? = some (.deferred (some []))) := (HX4.out.block D (Array.getElem?_eq_some_iff.1 hK).1 (fun e => hna e.symm)).trans hK
    clear hD hS hI hpre hK hW4 hne hna hnb
    gi_wp2
    rw [← HW4.out]
    clear HW4 cb fb q0 q1 q2 q3 q4 q5 q6 q7 q8 q9 q10 q11 f0 f1 f2 f3 f4 f5 f6 f7 f8 f9 f10 f11
    have hfs : Fr (fun i => i = gl + 1 + 1) W4 (W4.setCell ⟨gl + 1 + 1, 0, none⟩ (.bool false)) := (Fr.refl (fun i => i = gl + 1 + 1) W4).setCell (p := ⟨gl + 1 + 1, 0, none⟩) (fun _ => rfl) _
    have hpo : Fr (fun i => i = D) (W4.setCell ⟨gl + 1 + 1, 0, none⟩ (.bool false)) ((W4.setCell ⟨gl + 1 + 1, 0, none⟩ (.bool false)).putObj D (.deferred none)) := (Fr.ofGrown (grownBy_putObj' _ D (.deferred none))).mono fun _ _ e => by injection e
    have hnd := HNE.out
    have HBZ : Hid (Bk ((W4.setCell ⟨gl + 1 + 1, 0, none⟩ (.bool false)).putObj D (.deferred none)) (gl + 1) 40 #[.int .i64 0, .int .i64 0, .int .i64 0, .int .u64 0, .int .u64 0, .int .i64 0, .int .i64 0, .slice none 0 0, .slice none 0 0, .slice none 0 0, .int .i64 0, .slice none 0 0]) := (HB4.out.fr hfs (by omega)).fr hpo hnd.1
    have HBY : Hid (Bk ((W4.setCell ⟨gl + 1 + 1, 0, none⟩ (.bool false)).putObj D (.deferred none)) (gl + 1 + 1) 4 #[.bool false]) := by
      have h := HBB4.out.put 0 (.bool false)
      exact (show Bk _ _ _ _ by simpa using h).fr hpo hnd.2
    have HFZ : Hid (Fr NoBlk w ((W4.setCell ⟨gl + 1 + 1, 0, none⟩ (.bool false)).putObj D (.deferred none))) := ((HI.out.fr.step HX4.out fun i hi e => by have := HGE.out; omega).step hfs fun i hi e => by have := HGE.out; omega).step hpo fun i hi e => by have := HD.out; have := HGE.out; omega
    have hk5 : (W4.setCell ⟨gl + 1 + 1, 0, none⟩ (.bool false)).heap[D]? = some (.deferred (some [])) := (hfs.block D (Array.getElem?_eq_some_iff.1 HKD4.out).1 (fun e => hnd.2 e.symm)).trans HKD4.out
    refine ⟨by simp, .inl ⟨_, _, rfl, run_takeDeferred hk5, ?_⟩⟩
    have z0 : ((W4.setCell ⟨gl + 1 + 1, 0, none⟩ (.bool false)).putObj D (.deferred none)).cell? ⟨gl + 1, 0, none⟩ = some (.int .i64 0) := HBZ.out.cell 0
    have z1 : ((W4.setCell ⟨gl + 1 + 1, 0, none⟩ (.bool false)).putObj D (.deferred none)).cell? ⟨gl + 1, 1, none⟩ = some (.int .i64 0) := HBZ.out.cell 1
    have z2 : ((W4.setCell ⟨gl + 1 + 1, 0, none⟩ (.bool false)).putObj D (.deferred none)).cell? ⟨gl + 1, 2, none⟩ = some (.int .i64 0) := HBZ.out.cell 2
    have z3 : ((W4.setCell ⟨gl + 1 + 1, 0, none⟩ (.bool false)).putObj D (.deferred none)).cell? ⟨gl + 1, 3, none⟩ = some (.int .u64 0) := HBZ.out.cell 3
    have z4 : ((W4.setCell ⟨gl + 1 + 1, 0, none⟩ (.bool false)).putObj D (.deferred none)).cell? ⟨gl + 1, 4, none⟩ = some (.int .u64 0) := HBZ.out.cell 4
    have z5 : ((W4.setCell ⟨gl + 1 + 1, 0, none⟩ (.bool false)).putObj D (.deferred none)).cell? ⟨gl + 1, 5, none⟩ = some (.int .i64 0) := HBZ.out.cell 5
    have z6 : ((W4.setCell ⟨gl + 1 + 1, 0, none⟩ (.bool false)).putObj D (.deferred none)).cell? ⟨gl + 1, 6, none⟩ = some (.int .i64 0) := HBZ.out.cell 6
    have z7 : ((W4.setCell ⟨gl + 1 + 1, 0, none⟩ (.bool false)).putObj D (.deferred none)).cell? ⟨gl + 1, 7, none⟩ = some (.slice none 0 0) := HBZ.out.cell 7
    have z8 : ((W4.setCell ⟨gl + 1 + 1, 0, none⟩ (.bool false)).putObj D (.deferred none)).cell? ⟨gl + 1, 8, none⟩ = some (.slice none 0 0) := HBZ.out.cell 8
    have z9 : ((W4.setCell ⟨gl + 1 + 1, 0, none⟩ (.bool false)).putObj D (.deferred none)).cell? ⟨gl + 1, 9, none⟩ = some (.slice none 0 0) := HBZ.out.cell 9
    have z10 : ((W4.setCell ⟨gl + 1 + 1, 0, none⟩ (.bool false)).putObj D (.deferred none)).cell? ⟨gl + 1, 10, none⟩ = some (.int .i64 0) := HBZ.out.cell 10
    have z11 : ((W4.setCell ⟨gl + 1 + 1, 0, none⟩ (.bool false)).putObj D (.deferred none)).cell? ⟨gl + 1, 11, none⟩ = some (.slice none 0 0) := HBZ.out.cell 11
    have y0 := HBY.out.cell 0
    refine ⟨.tuple #[.agg izero, .bool false], ?_, .agg izero, false, rfl, HFZ.out, .inr ⟨rfl, rfl, ?_⟩⟩
    · rw [results_cells2 rfl]
      unfold izero
      go_simp
    · rw [← HSD.out]
      exact find_done fun p hp => by
        obtain ⟨x, hx, rfl⟩ := List.mem_map.1 hp
        exact HPRE.out x hx
  case stop =>
    rintro D c' pre W hD hS ⟨rfl, pre', x, b, rfl, hpre, hlt, hI, hit⟩ hK
    have HD := Lib.hid hD
    have HSD := Lib.hid hS
    have HI := Lib.hid hI
    have HPRE := Lib.hid hpre
    have HKD := Lib.hid hK
    have HIT := Lib.hid hit
    have HLT := Lib.hid hlt
    clear hI hD hK hS hpre hit hlt
    have hne : ∀ g T cs, Bk W g T cs → g ≠ D := fun g T cs h e => by
      have h2 := HKD.out
      unfold Bk at h
      rw [e, h2] at h
      cases h
    have hpo : Fr (fun i => i = D) W (W.putObj D (.deferred none)) := (Fr.ofGrown (grownBy_putObj' _ D (.deferred none))).mono fun _ _ e => by injection e
    have HBZ : Hid (Bk (W.putObj D (.deferred none)) (gl + 1) 40 #[.int .i64 2, .int .i64 (x.1.1 : Int), .int .i64 b.node, .int .u64 (b.epoch : Int), .int .u64 (b.seq : Int), .int .i64 b.tr, .int .i64 b.t.kind, .slice b.t.ra b.t.reads.length b.t.rc, .slice b.t.wa b.t.writes.length b.t.wc, .slice b.t.oa b.t.ops.length b.t.oc, .int .i64 b.t.to, .slice b.ma b.marks.length b.mc]) := HI.out.i.fr hpo (hne _ _ _ HI.out.i)
    have HBY : Hid (Bk (W.putObj D (.deferred none)) (gl + 1 + 1) 4 #[.bool true]) := HI.out.b.fr hpo (hne _ _ _ HI.out.b)
    have HFZ : Hid (Fr NoBlk w (W.putObj D (.deferred none))) := HI.out.fr.step hpo fun i hi e => by have := HD.out; have := HGE.out; omega
    have HITZ : Hid (ItOf (W.putObj D (.deferred none)) w.heap.size ⟨2, x.1.1, b⟩ x.1) := HIT.out.others (grownBy_putObj' W D (.deferred none)) fun r e => by
      injection e with e
      subst e
      exact ⟨_, HKD.out, rfl⟩
    clear hne hpo
    gi_wp2
    refine ⟨by simp, .inl ⟨_, _, rfl, run_takeDeferred HKD.out, ?_⟩⟩
    have z0 : (W.putObj D (.deferred none)).cell? ⟨gl + 1, 0, none⟩ = some (.int .i64 2) := HBZ.out.cell 0
    have z1 : (W.putObj D (.deferred none)).cell? ⟨gl + 1, 1, none⟩ = some (.int .i64 (x.1.1 : Int)) := HBZ.out.cell 1
    have z2 : (W.putObj D (.deferred none)).cell? ⟨gl + 1, 2, none⟩ = some (.int .i64 b.node) := HBZ.out.cell 2
    have z3 : (W.putObj D (.deferred none)).cell? ⟨gl + 1, 3, none⟩ = some (.int .u64 (b.epoch : Int)) := HBZ.out.cell 3
    have z4 : (W.putObj D (.deferred none)).cell? ⟨gl + 1, 4, none⟩ = some (.int .u64 (b.seq : Int)) := HBZ.out.cell 4
    have z5 : (W.putObj D (.deferred none)).cell? ⟨gl + 1, 5, none⟩ = some (.int .i64 b.tr) := HBZ.out.cell 5
    have z6 : (W.putObj D (.deferred none)).cell? ⟨gl + 1, 6, none⟩ = some (.int .i64 b.t.kind) := HBZ.out.cell 6
    have z7 : (W.putObj D (.deferred none)).cell? ⟨gl + 1, 7, none⟩ = some (.slice b.t.ra b.t.reads.length b.t.rc) := HBZ.out.cell 7
    have z8 : (W.putObj D (.deferred none)).cell? ⟨gl + 1, 8, none⟩ = some (.slice b.t.wa b.t.writes.length b.t.wc) := HBZ.out.cell 8
    have z9 : (W.putObj D (.deferred none)).cell? ⟨gl + 1, 9, none⟩ = some (.slice b.t.oa b.t.ops.length b.t.oc) := HBZ.out.cell 9
    have z10 : (W.putObj D (.deferred none)).cell? ⟨gl + 1, 10, none⟩ = some (.int .i64 b.t.to) := HBZ.out.cell 10
    have z11 : (W.putObj D (.deferred none)).cell? ⟨gl + 1, 11, none⟩ = some (.slice b.ma b.marks.length b.mc) := HBZ.out.cell 11
    have y0 := HBY.out.cell 0
    refine ⟨.tuple #[imv ⟨2, x.1.1, b⟩, .bool true], ?_, imv ⟨2, x.1.1, b⟩, true, rfl, HFZ.out, .inl ⟨rfl, _, x.1, rfl, ?_, HITZ.out⟩⟩
    · rw [results_cells2 rfl]
      unfold imv ima
      go_simp
    · have h := HSD.out
      rw [List.map_append] at h
      exact find_stop h (fun p hp => by
        obtain ⟨y, hy, rfl⟩ := List.mem_map.1 hp
        exact HPRE.out y hy) HLT.out
end Go.Proofs.Ytdgjjkmgdjiliaa

namespace Go.Proofs.Ytdgjjkmgdjiliaa
open Go.RowKit Go.Maps

theorem pcs_mem {rg : Int} {xs : List Od} {p : Pc} : ∀ {n : Nat}, p ∈ pcs rg xs n → p.1 < n ∧ xs[p.1]? = some p.2
  | 0, h => by cases h
  | n + 1, h => by
    rw [pcs, List.mem_append] at h
    rcases h with h | h
    · obtain ⟨h1, h2⟩ := pcs_mem h
      exact ⟨by omega, h2⟩
    · cases ho : xs[n]? with
      | none => rw [ho] at h; cases h
      | some o =>
        rw [ho] at h
        dsimp only at h
        split at h
        · rw [List.mem_singleton.1 h]
          exact ⟨Nat.lt_succ_self n, ho⟩
        · cases h
def txz : Tx := ⟨0, none, 0, [], none, 0, [], none, 0, [], 0⟩
def imz : Im := ⟨0, 0, ⟨0, 0, 0, 0, txz, none, 0, []⟩⟩
theorem imz_v : imv imz = .agg izero := rfl
theorem imz_in (w : World) : OdIn w imz.o := by
  refine ⟨⟨Rd.none_ _ _, Rd.none_ _ _, Rd.none_ _ _, (fun x hx => by cases hx), ⟨(fun x hx => by cases hx), (fun x hx => by cases hx)⟩, ⟨Nat.le_refl _, Nat.zero_le _, fun _ => rfl⟩, ⟨Nat.le_refl _, Nat.zero_le _, fun _ => rfl⟩, ⟨Nat.le_refl _, Nat.zero_le _, fun _ => rfl⟩⟩, Rd.none_ _ _, ⟨Nat.le_refl _, Nat.zero_le _, fun _ => rfl⟩, (fun x hx => by cases hx), ⟨by decide, by decide, (fun x hx => by cases hx)⟩⟩
theorem imz_small : OSmall imz.o :=
  ⟨⟨Nat.zero_le _, Nat.zero_le _, Nat.zero_le _, (fun k hk => by cases hk), (fun k hk => by cases hk), (fun k hk => by cases hk)⟩, Nat.zero_le _, (fun k hk => by cases hk)⟩
theorem imz_same : itemSm imz imz = true := by
  unfold itemSm
  rw [(orderSame_iff imz.o imz.o).2 ⟨rfl, rfl, rfl, rfl, rfl, rfl, rfl, rfl, ⟨rfl, fun j x y hx => by cases hx⟩, rfl⟩]
  rfl
theorem ItOf.same {W : World} {N : Nat} {i : Im} {p : Pc} (h : ItOf W N i p) : itemSm i (pim p) = true := by
  unfold itemSm pim
  rw [(orderSame_iff i.o p.2).2 h.like, h.kind, h.index]
  simp
/-- Next's answer as an item. -/
structure NextAt (w' : World) (ps : List Pc) (la : Int) (it : Im) (b : Bool) : Prop where
  inn : OdIn w' it.o
  small : OSmall it.o
  yes : ∀ p, ps.find? (behindB la) = some p → b = true ∧ itemSm it (pim p) = true
  no : ps.find? (behindB la) = none → b = false ∧ it = imz
theorem NextPost.open {w w' : World} {ps : List Pc} {la : Int} {e : Ending} (h : NextPost w ps la e w') (hs : ∀ p ∈ ps, OSmall p.2) : ∃ it b, e = .returned (.tuple #[imv it, .bool b]) ∧ Fr NoBlk w w' ∧ NextAt w' ps la it b := by
  obtain ⟨v, b, rfl, hf, ⟨rfl, it, p, rfl, hp, hi⟩ | ⟨rfl, rfl, hp⟩⟩ := h
  · refine ⟨it, true, rfl, hf, hi.inn, hi.like.small (hs p (List.mem_of_find?_eq_some hp)), fun q hq => ?_, fun hq => ?_⟩
    · rw [hp] at hq
      injection hq with hq
      subst hq
      exact ⟨rfl, hi.same⟩
    · rw [hp] at hq
      cases hq
  · refine ⟨imz, false, by rw [imz_v], hf, imz_in _, imz_small, fun q hq => ?_, fun _ => ⟨rfl, rfl⟩⟩
    rw [hp] at hq
    cases hq
theorem NextAt.nofr {w w' : World} {ps : List Pc} {la : Int} {it : Im} {b : Bool} (h : NextAt w ps la it b) (hf : Fr NoBlk w w') : NextAt w' ps la it b := ⟨h.inn.nofr hf, h.small, h.yes, h.no⟩
theorem find_at {ps : List Pc} {i : Nat} {p : Pc} {la : Int} (hp : ps[i]? = some p) (h : ∀ (j : Nat) (q : Pc), j < i → ps[j]? = some q → (q.1 : Int) ≤ la) (hx : la < (p.1 : Int)) : ps.find? (behindB la) = some p := by
  obtain ⟨hi, he⟩ := List.getElem?_eq_some_iff.1 hp
  refine List.find?_eq_some_iff_getElem.2 ⟨by simp [behindB, hx], i, hi, he, fun j hj => ?_⟩
  have := h j _ hj (List.getElem?_eq_getElem (by omega))
  simpa [behindB] using this
theorem find_no {ps : List Pc} {la : Int} (h : ∀ (j : Nat) (q : Pc), ps[j]? = some q → (q.1 : Int) ≤ la) : ps.find? (behindB la) = none :=
  find_done fun p hp => by
    obtain ⟨j, hj⟩ := List.getElem?_of_mem hp
    exact h j p hj
theorem LogIn.of {w : World} {A : Option Addr} {xs : List Od} (hr : Rd w A (odsc xs)) (hx : ∀ o ∈ xs, OdIn w o ∧ TgOk (tgOf o)) (hs : ∀ o ∈ xs, OSmall o) (hl : xs.length ≤ 30) : LogIn w A xs :=
  ⟨hr, fun o ho => ⟨(hx o ho).1, by have := (hs o ho).m; omega, (hx o ho).2⟩, by omega⟩
end Go.Proofs.Ytdgjjkmgdjiliaa
