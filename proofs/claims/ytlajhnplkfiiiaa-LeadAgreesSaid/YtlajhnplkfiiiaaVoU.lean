/- A voter: New, Promise, Accept, Promised, Votes. Conditions: at most 64 places. -/
import Derived.Test.YtlajhnplkfiiiaaN7U
import Derived.Test.YtlajhnplkfiiiaaVoT
namespace Go.Proofs.Ytlajhnplkfiiiaa
open Go.RowKit Go.Shelf
attribute [local go_sem] Oper.semAt_some
/-- a voter in memory: its block g, its tree's block gt; O are the tree's blocks, all of them made since B. -/
structure VoU (w : World) (B g gt : Nat) (O : Nat → Prop) (p : Nat) (xs : List ItU) : Prop where
  bk : Bk w g 71 #[.int .u64 (p : Int), .pointer (some ⟨gt, 0, none⟩)]
  tr : TreeU w gt O xs
  ge : B ≤ g ∧ ∀ b, O b → B ≤ b
  ne : ¬ O g
  ok : ∀ x ∈ xs, x.2.slot = x.1 ∧ 0 ≤ x.1 ∧ x.1 < 64
section
variable {w w' : World} {B g gt p : Nat} {O C : Nat → Prop} {xs : List ItU}
theorem VoU.fr (h : VoU w B g gt O p xs) (hf : Fr C w w') (h1 : ¬ C g) (h2 : ∀ b, O b → ¬ C b) : VoU w' B g gt O p xs := ⟨h.bk.fr hf h1, h.tr.fr hf h2, h.ge, h.ne, h.ok⟩
theorem VoU.nofr (h : VoU w B g gt O p xs) (hf : Fr NoBlk w w') : VoU w' B g gt O p xs := h.fr hf (fun e => e) fun _ _ e => e
theorem VoU.len (h : VoU w B g gt O p xs) : xs.length ≤ 64 := up_len h.tr.up 64 0 fun x hx => by have := h.ok x hx; omega
theorem VoU.low (h : VoU w B g gt O p xs) {B' : Nat} (hB : B' ≤ B) : VoU w B' g gt O p xs := ⟨h.bk, h.tr, ⟨by have := h.ge.1; omega, fun b hb => by have := h.ge.2 b hb; omega⟩, h.ne, h.ok⟩
end
set_option maxRecDepth 100000 in
set_option maxHeartbeats 1000000 in
theorem vnewU_any (w : World) : Calls Try.prog 6 #[] w fun e w' => ∃ g gt O, e = .returned (.pointer (some ⟨g, 0, none⟩)) ∧ VoU w' w.heap.size g gt O 0 [] ∧ Fr NoBlk w w' := by
  go_enter Try.func6, Try.ntmps6
  go_wp2_with fail
  refine (newU_any w).mono ?_
  rintro e w1 ⟨gt, O, rfl, ht, hO, hf⟩
  have HT := Lib.hid ht
  have HO := Lib.hid hO
  have HF := Lib.hid hf
  clear ht hO hf
  go_wp2_with fail
  go_ret
  refine ⟨w1.heap.size, gt, O, rfl, ⟨Bk.new _ _ _, HT.out.nofr ((Fr.refl _ _).alloc _), ⟨HF.out.size, HO.out⟩, fun h => ?_, fun x hx => (by cases hx)⟩, HF.out.alloc _⟩
  have := HT.out.lt h
  omega
/-- is a vote taken? -/
def takesU (p : Nat) (v : VaU) : Bool := !decide (v.bal < p) && (decide (0 ≤ v.slot) && decide (v.slot < 64))
def AccPostU (w : World) (B g gt : Nat) (O : Nat → Prop) (p : Nat) (xs : List ItU) (v : VaU) (e : Ending) (w' : World) : Prop :=
  e = .returned (.bool (takesU p v)) ∧ ∃ O', VoU w' B g gt O' (if takesU p v then v.bal else p) (if takesU p v then putL ltI v.slot v xs else xs) ∧ (∀ b, O' b → O b ∨ w.heap.size ≤ b) ∧ Fr (fun b => b = g ∨ O b) w w'
set_option maxRecDepth 100000 in
set_option maxHeartbeats 1000000 in
theorem vacceptU_any (w : World) (B g gt : Nat) (O : Nat → Prop) (p : Nat) (xs : List ItU) (h : VoU w B g gt O p xs) (v : VaU) : Calls Try.prog 13 #[.pointer (some ⟨g, 0, none⟩), .agg #[.int .i64 v.slot, .int .u64 (v.bal : Int), .int .i64 v.val]] w (AccPostU w B g gt O p xs v) := by
  obtain ⟨q, hq⟩ : ∃ q, q = w.heap.size := ⟨_, rfl⟩
  obtain ⟨w1, hw1⟩ : ∃ w1, w1 = w.alloc (.cells #[.int .i64 v.slot, .int .u64 (v.bal : Int), .int .i64 v.val] 46) := ⟨_, rfl⟩
  have HF1 : Hid (Fr NoBlk w w1) := by show Fr _ _ _; rw [hw1]; exact (Fr.refl _ _).alloc _
  have HB1 : Hid (Bk w1 q 46 #[.int .i64 v.slot, .int .u64 (v.bal : Int), .int .i64 v.val]) := by show Bk _ _ _ _; rw [hw1, hq]; exact Bk.new _ _ _
  have H1 := Lib.hid (h.nofr HF1.out)
  have HQ : Hid (q = w.heap.size ∧ g ≠ q) := ⟨hq, by have := h.bk.lt; omega⟩
  have HGE := Lib.hid h.ge
  have HGW := Lib.hid h.bk.lt
  have c0 : w1.cell? ⟨g, 0, none⟩ = some (.int .u64 (p : Int)) := H1.out.bk.cell 0
  have c1 : w1.cell? ⟨g, 1, none⟩ = some (.pointer (some ⟨gt, 0, none⟩)) := H1.out.bk.cell 1
  have f0 : w1.frozen? ⟨g, 0, none⟩ = false := H1.out.bk.free 0
  have d0 : w1.cell? ⟨q, 0, none⟩ = some (.int .i64 v.slot) := HB1.out.cell 0
  have d1 : w1.cell? ⟨q, 1, none⟩ = some (.int .u64 (v.bal : Int)) := HB1.out.cell 1
  have d2 : w1.cell? ⟨q, 2, none⟩ = some (.int .i64 v.val) := HB1.out.cell 2
  have HD : Hid (takesU p v = (!decide (v.bal < p) && (decide (0 ≤ v.slot) && decide (v.slot < 64)))) := rfl
  have HW1 := Lib.hid hw1
  clear h hq hw1
  go_enter Try.func13, Try.ntmps13
  go_upto_region 1 with fail
  rw [← HW1.out, ← HQ.out.1]
  clear HW1
  by_cases hb : v.bal < p
  · have HT : Hid (takesU p v = false) := by show _ = _; rw [HD.out, decide_eq_true hb]; rfl
    have k1 : (v.bal : Int) < (p : Int) := by omega
    clear hb
    go_quiet (fail)
    go_wp2_with fail
    go_ret
    refine ⟨by rw [HT.out]; rfl, O, ?_, fun b hb => .inl hb, (HF1.out.mono fun _ _ e => e.elim).trans ((Fr.refl _ _).drewN _)⟩
    rw [HT.out]
    exact H1.out.nofr ((Fr.refl _ _).drewN _)
  have k1 : ¬ (v.bal : Int) < (p : Int) := by omega
  have HNB := Lib.hid hb
  clear hb
  by_cases hs : v.slot < 0
  · have HT : Hid (takesU p v = false) := by show _ = _; rw [HD.out, decide_eq_false (show ¬ 0 ≤ v.slot by omega), Bool.false_and, Bool.and_false]
    go_quiet (fail)
    go_wp2_with fail
    go_ret
    refine ⟨by rw [HT.out]; rfl, O, ?_, fun b hb => .inl hb, (HF1.out.mono fun _ _ e => e.elim).trans ((Fr.refl _ _).drewN _)⟩
    rw [HT.out]
    exact H1.out.nofr ((Fr.refl _ _).drewN _)
  have HS0 : Hid (0 ≤ v.slot) := by show _ ≤ _; omega
  by_cases h64 : v.slot < 64
  rotate_left
  · have HT : Hid (takesU p v = false) := by show _ = _; rw [HD.out, decide_eq_false h64, Bool.and_false, Bool.and_false]
    have k2 : (64 : Int) ≤ v.slot := by omega
    clear h64
    go_quiet (fail)
    go_wp2_with fail
    go_ret
    refine ⟨by rw [HT.out]; rfl, O, ?_, fun b hb => .inl hb, (HF1.out.mono fun _ _ e => e.elim).trans ((Fr.refl _ _).drewN _)⟩
    rw [HT.out]
    exact H1.out.nofr ((Fr.refl _ _).drewN _)
  have HT : Hid (takesU p v = true) := by show _ = _; rw [HD.out, decide_eq_false HNB.out, decide_eq_true HS0.out, decide_eq_true h64]; rfl
  have k2 : ¬ (64 : Int) ≤ v.slot := by omega
  have HS1 := Lib.hid h64
  clear h64
  go_quiet (fail)
  obtain ⟨W, hW⟩ : ∃ W, W = w1.drewN nq := ⟨_, rfl⟩
  rw [← hW]
  have hfW : Fr NoBlk w1 W := by rw [hW]; exact (Fr.refl _ _).drewN _
  obtain ⟨W3, hW3⟩ : ∃ W3, W3 = W.setCell ⟨g, 0, none⟩ (.int .u64 (v.bal : Int)) := ⟨_, rfl⟩
  have hf3 : Fr (fun b => b = g) W W3 := by rw [hW3]; exact (Fr.refl (fun b => b = g) W).setCell (p := ⟨g, 0, none⟩) (fun _ => rfl) _
  have hbg := H1.out.bk.fr hfW fun e => e
  have hbq := HB1.out.fr hfW fun e => e
  have HG3 : Hid (Bk W3 g 71 #[.int .u64 (v.bal : Int), .pointer (some ⟨gt, 0, none⟩)]) := by show Bk _ _ _ _; rw [hW3]; exact hbg.put 0 _
  have HQ3 : Hid (Bk W3 q 46 #[.int .i64 v.slot, .int .u64 (v.bal : Int), .int .i64 v.val]) := hbq.fr hf3 fun e => HQ.out.2 e.symm
  have HT3 : Hid (TreeU W3 gt O xs) := (H1.out.tr.nofr hfW).fr hf3 fun b hb e => H1.out.ne (e ▸ hb)
  have HPUT := Lib.hid (treePutU_any W3.drew gt O xs (HT3.out.nofr (Fr.refl _ _).drew) (by have := H1.out.len; omega) v.slot v)
  have HF3 : Hid (Fr (fun b => b = g) w W3) := ((HF1.out.trans hfW).mono fun _ _ e => e.elim).trans hf3
  have g0 : W.frozen? ⟨g, 0, none⟩ = false := hbg.free 0
  have g1 : W.cell? ⟨g, 0, none⟩ = some (.int .u64 (p : Int)) := hbg.cell 0
  have g2 : W.cell? ⟨q, 1, none⟩ = some (.int .u64 (v.bal : Int)) := hbq.cell 1
  have HW3 := Lib.hid hW3
  clear c0 c1 f0 k1 k2 hW hfW hW3 hf3 hbg hbq hs d0 d1 d2
  go_upto_region 4 with fail
  rw [← HW3.out]
  clear HW3 g0 g1 g2
  have c1 : W3.cell? ⟨g, 1, none⟩ = some (.pointer (some ⟨gt, 0, none⟩)) := HG3.out.cell 1
  have c1d : W3.drew.cell? ⟨g, 1, none⟩ = some (.pointer (some ⟨gt, 0, none⟩)) := c1
  have e0 : W3.cell? ⟨q, 0, none⟩ = some (.int .i64 v.slot) := HQ3.out.cell 0
  have e1 : W3.cell? ⟨q, 1, none⟩ = some (.int .u64 (v.bal : Int)) := HQ3.out.cell 1
  have e2 : W3.cell? ⟨q, 2, none⟩ = some (.int .i64 v.val) := HQ3.out.cell 2
  have ed0 : W3.drew.cell? ⟨q, 0, none⟩ = some (.int .i64 v.slot) := (HQ3.out.fr (Fr.refl NoBlk _).drew fun e => e).cell 0
  have ed1 : W3.drew.cell? ⟨q, 1, none⟩ = some (.int .u64 (v.bal : Int)) := (HQ3.out.fr (Fr.refl NoBlk _).drew fun e => e).cell 1
  have ed2 : W3.drew.cell? ⟨q, 2, none⟩ = some (.int .i64 v.val) := (HQ3.out.fr (Fr.refl NoBlk _).drew fun e => e).cell 2
  go_region_with (refine HPUT.out.mono ?_; rintro e w5 ⟨old, had, O', rfl, hlk, ht, hst⟩; have HP := Lib.hid (And.intro ht hst); clear hlk ht hst)
  all_goals
    obtain ⟨ht, hst⟩ := HP.out
    clear HPUT c1 c1d e0 ed0 e1 ed1 e2 ed2 HP
    have hg5 : Bk w5 g 71 #[.int .u64 (v.bal : Int), .pointer (some ⟨gt, 0, none⟩)] := HG3.out.fr ((Fr.refl _ _).drew.trans hst.fr) H1.out.ne
    have hz := HF3.out.size
    have hz3 : W3.drew.heap.size = W3.heap.size := rfl
    have hgw : g < w.heap.size := by have := H1.out.bk; have h2 := HQ.out; have := HGW.out; omega
    have HR : Hid (AccPostU w B g gt O p xs v (.returned (.bool true)) w5) := by
      refine ⟨by rw [HT.out], O', ?_, fun b hb => ?_, ?_⟩
      · rw [HT.out]
        refine ⟨hg5, ht, ⟨HGE.out.1, fun b hb => ?_⟩, fun hb => ?_, fun x hx => ?_⟩
        · rcases hst.new b hb with h | h
          · exact HGE.out.2 b h
          · have := HGE.out.1; omega
        · rcases hst.new g hb with h | h
          · exact H1.out.ne h
          · omega
        · rcases mem_putL.1 hx with h | ⟨h, _⟩
          · rw [h]
            exact ⟨rfl, HS0.out, HS1.out⟩
          · exact H1.out.ok x h
      · rcases hst.new b hb with h | h
        · exact .inl h
        · exact .inr (by omega)
      · exact (HF3.out.mono fun _ _ e => .inl e).trans (((Fr.refl (fun b => b = g ∨ O b) W3).drew).trans (hst.fr.mono fun _ _ e => .inr e))
    clear hg5 hz hz3 hgw ht hst
    go_wp2_with fail
    go_ret
    exact HR.out
def PromPostU (w : World) (B g gt : Nat) (O : Nat → Prop) (p : Nat) (xs : List ItU) (bal : Nat) (from' : Int) (e : Ending) (w' : World) : Prop :=
  if bal < p then e = .returned (.tuple #[.slice none 0 0, .bool false]) ∧ Fr NoBlk w w'
  else ∃ A c, e = .returned (.tuple #[.slice A (geL ltI from' xs).length c, .bool true]) ∧ w'.ownsRow w.heap.size 46 3 (.slice A (geL ltI from' xs).length c) (geL ltI from' xs).length (valsU (geL ltI from' xs)) ∧
    VoU w' B g gt O bal xs ∧ Fr (fun b => b = g) w w'
end Go.Proofs.Ytlajhnplkfiiiaa
