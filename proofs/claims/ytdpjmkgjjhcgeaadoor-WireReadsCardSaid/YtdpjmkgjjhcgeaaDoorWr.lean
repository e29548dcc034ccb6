/- The program's Write. Conditions: the table holds its numbers, the message lies in memory. -/
import Derived.Test.YtdpjmkgjjhcgeaaDoorChk
import Derived.Lib.ConvBytes
import Derived.Deep.Cut
namespace Go.Proofs.YtdpjmkgjjhcgeaaDoor
open Go.RowKit

/-- a text as bytes in new memory. -/
theorem conv (w : World) (key : Bs) : ∃ W c, (convert 9 28 (.string (bstr key))).run Tryd.prog w = .ok (.slice (some ⟨w.heap.size, 0, none⟩) key.length c) W ∧ Rd W (some ⟨w.heap.size, 0, none⟩) (cb key) ∧ Fr NoBlk w W := by
  refine ⟨_, _, (Lib.run_convert_string_bytes (P := Tryd.prog) w 9 28 5 (bstr key) Tryd.underlying9 Tryd.underlying28 Tryd.underlying5).trans (by rw [bstr_size]), fun _ => ⟨w.heap.size, 0, rfl, fun j v hj => ?_⟩, ⟨?_, ?_, ?_, ?_, fun k hk _ => Lib.bytesWorld_at_old _ _ _ k hk⟩⟩
  · have hjl := (List.getElem?_eq_some_iff.1 hj).1
    rw [cb_length] at hjl
    rw [Nat.zero_add, Lib.bytesWorld_cell w _ _ j (by rw [bstr_size]; exact hjl), ← hj, cb_get key j hjl]
    rfl
  · simp [Lib.bytesWorld, World.freeze, World.alloc, World.drew, -World.alloc_eq, -World.drew_eq]
  · simp [Lib.bytesWorld, World.freeze, World.alloc, World.drew, -World.alloc_eq, -World.drew_eq]
  · simp [Lib.bytesWorld, World.freeze, World.alloc, World.drew, -World.alloc_eq, -World.drew_eq]
  · rw [Lib.bytesWorld_size]; omega


/-- how far the writer has come: the pen in block g, the message's box, what lay before. -/
structure WS (w w3 wr : World) (g : Nat) (cs : Array Value) (v' : Value) (l : List UInt8) : Prop where
  wro : Wro w3 wr g g (.slice none 0 0) v' l
  bk : Bk wr w.heap.size 26 cs
  old : Fr NoBlk w wr
  le : g ≤ wr.heap.size
  lt : w.heap.size < g
theorem WS.next {w w3 wr wx : World} {g : Nat} {cs : Array Value} {v1 v2 : Value} {l1 l2 : List UInt8} (h : WS w w3 wr g cs v1 l1) (hn : Wro wr wx g g v1 v2 l2) : WS w w3 wx g cs v2 l2 :=
  ⟨h.wro.trans hn, hn.keep h.wro.pen h.bk (by decide) (by decide), Wro.old h.old (by have := h.lt; omega) (by have := h.lt; omega) h.wro.pen hn, Nat.le_trans h.le hn.fr.size, h.lt⟩
theorem WS.nofr {w w3 wr wx : World} {g : Nat} {cs : Array Value} {v1 : Value} {l1 : List UInt8} (h : WS w w3 wr g cs v1 l1) (hf : Fr NoBlk wr wx) : WS w w3 wx g cs v1 l1 :=
  ⟨⟨h.wro.pen.nofr hf, h.wro.fr.step hf fun _ _ h => h.elim, h.wro.blk⟩, h.bk.fr hf (fun h => h), h.old.trans hf, Nat.le_trans h.le hf.size, h.lt⟩
/-- blocks that aren't the pen's stay. -/
def KeptB (w w' : World) : Prop := ∀ k T cs, Bk w k T cs → 5 ≠ T → T ≠ 51 → Bk w' k T cs
theorem WS.num_ {w w3 wr : World} {g : Nat} {cs : Array Value} {v1 : Value} {l1 : List UInt8} (h : WS w w3 wr g cs v1 l1) (n : Nat) (hn : n < 2 ^ 64) (hl : l1.length ≤ 1000000) :
    Calls Tryd.prog 17 #[.pointer (some ⟨g, 0, none⟩), .int .u64 n] wr fun e w' => e = .returned (.tuple #[]) ∧ ∃ v', WS w w3 w' g cs v' (l1 ++ num n) ∧ KeptB wr w' :=
  (num_any wr g g n v1 l1 h.wro.pen h.le hn (by omega)).mono fun _ _ ⟨he, v', hw⟩ => ⟨he, v', h.next hw, fun _ _ _ hb h1 h2 => hw.keep h.wro.pen hb h1 h2⟩
theorem WS.text_ {w w3 wr W : World} {g : Nat} {cs : Array Value} {v1 : Value} {l1 : List UInt8} (h : WS w w3 wr g cs v1 l1) (hf : Fr NoBlk wr W) (t : Bs) (c : Nat) (hr : Rd W (some ⟨wr.heap.size, 0, none⟩) (cb t)) (ht : t.length ≤ 100000) (hl : l1.length ≤ 1000000) :
    Calls Tryd.prog 18 #[.pointer (some ⟨g, 0, none⟩), .slice (some ⟨wr.heap.size, 0, none⟩) t.length c] W fun e w' => e = .returned (.tuple #[]) ∧ ∃ v', WS w w3 w' g cs v' (l1 ++ textB t) ∧ KeptB wr w' :=
  (text_any W g g (some ⟨wr.heap.size, 0, none⟩) t.length c t v1 l1 (h.wro.pen.nofr hf) (Nat.le_trans h.le hf.size) rfl hr (fun h => by cases h)
    (fun _ j hj => by
      obtain ⟨ad, e, rfl⟩ := hj
      injection e with e
      subst e
      have hlt := h.wro.pen.lt
      exact ⟨by show wr.heap.size ≠ g; omega, fun e => absurd (hlt.2 _ e.symm) (Nat.lt_irrefl _)⟩) (by omega) (by omega)).mono fun _ _ ⟨he, v', hw⟩ => ⟨he, v', (h.nofr hf).next hw, fun _ _ _ hb h1 h2 => hw.keep (h.wro.pen.nofr hf) (hb.fr hf fun h => h) h1 h2⟩

def WritePost (w : World) (m : Mg) (e : Ending) (w' : World) : Prop :=
  if rightM m = true then ∃ v', e = .returned (.tuple #[v', .int .i64 0]) ∧ New w w' v' (msgB m) else e = .returned (.tuple #[.slice none 0 0, .int .i64 1]) ∧ Fr NoBlk w w'

set_option maxRecDepth 100000 in
set_option maxHeartbeats 8000000 in
theorem write_any (w : World) (ht : Tab w) (m : Mg) (hm : MgIn w m) : Calls Tryd.prog 10 #[mgv m] w (WritePost w m) := by
  obtain ⟨w1, hw1⟩ : ∃ w1, w1 = w.alloc (.cells (mga m) 26) := ⟨_, rfl⟩
  have HF : Hid (Fr NoBlk w w1) := by
    show Fr _ _ _
    rw [hw1]
    exact (Fr.refl _ _).alloc _
  have HB : Hid (Bk w1 w.heap.size 26 (mga m)) := by
    show Bk _ _ _ _
    rw [hw1]
    exact Bk.new w _ _
  have HT := Lib.hid ht
  have HM := Lib.hid hm
  have HC := Lib.hid (check_any w1 m (hm.nofr HF.out))
  have HWP : Hid (∀ e w', WritePost w m e w' = if rightM m = true then ∃ v', e = .returned (.tuple #[v', .int .i64 0]) ∧ New w w' v' (msgB m) else e = .returned (.tuple #[.slice none 0 0, .int .i64 1]) ∧ Fr NoBlk w w') := fun _ _ => rfl
  clear ht hm
  unfold mgv mga at HC ⊢
  unfold mga at hw1
  obtain ⟨c0, c1, c2, c3, c4, c5, c6, c7⟩ := HB.out.msg
  by_cases hr : rightM m = true
  rotate_left
  · have HR := Lib.hid hr
    rw [Bool.eq_false_iff.2 hr] at HC
    clear hr
    go_enter Tryd.func10, Tryd.ntmps10
    go_wp2_with fail
    rw [← hw1]
    clear hw1
    go_wp2_with fail
    refine HC.out.mono ?_
    rintro e w2 ⟨rfl, hf2⟩
    have HF2 := Lib.hid (HF.out.trans hf2)
    clear hf2 HB HF HC c0 c1 c2 c3 c4 c5 c6 c7
    have e0 : codeR false = 1 := rfl
    rw [e0]
    go_wp2_with fail
    go_ret2
    rw [HWP.out, if_neg HR.out]
    exact ⟨rfl, HF2.out⟩
  have HWM := Lib.hid (rightM_wmg hr)
  have HLEN := Lib.hid (bodyB_len HWM.out HM.out.nums)
  have HR := Lib.hid hr
  rw [hr] at HC
  obtain ⟨k1, hk1⟩ : ∃ k : Nat, m.kind = k := ⟨m.kind.toNat, by have := HWM.out.kind; omega⟩
  obtain ⟨k2, hk2⟩ : ∃ k : Nat, m.frm = k := ⟨m.frm.toNat, by have := HWM.out.frm; omega⟩
  obtain ⟨k3, hk3⟩ : ∃ k : Nat, m.dst = k := ⟨m.dst.toNat, by have := HWM.out.dst; omega⟩
  obtain ⟨k4, hk4⟩ : ∃ k : Nat, m.grp = k := ⟨m.grp.toNat, by have := HWM.out.grp; omega⟩
  obtain ⟨k5, hk5⟩ : ∃ k : Nat, m.slot = k := ⟨m.slot.toNat, by have := HWM.out.slot; omega⟩
  have b1 : k1 ≤ 9 := by have := HWM.out.kind; omega
  have b2 : k2 ≤ 8 := by have := HWM.out.frm; omega
  have b3 : k3 ≤ 8 := by have := HWM.out.dst; omega
  have b4 : k4 ≤ 3 := by have := HWM.out.grp; omega
  have b5 : k5 ≤ 64 := by have := HWM.out.slot; omega
  have HBODY : Hid (bodyB m = nums [k1, k2, k3, k4, k5] ++ (num m.ballot ++ (textB m.value ++ (num m.votes.length ++ m.votes.flatMap voteB)))) := by
    show _ = _
    unfold bodyB headB
    rw [hk1, hk2, hk3, hk4, hk5]
    rfl
  have HMGA : Hid (mga m = #[.int .i64 (k1 : Int), .int .i64 (k2 : Int), .int .i64 (k3 : Int), .int .i64 (k4 : Int), .int .i64 (k5 : Int), .int .u64 (m.ballot : Int), .string (bstr m.value), .slice m.va m.votes.length m.vc]) := by
    show _ = _
    unfold mga
    rw [hk1, hk2, hk3, hk4, hk5]
  rw [hk1, hk2, hk3, hk4, hk5] at HC ⊢
  rw [hk1, hk2, hk3, hk4, hk5] at hw1
  rw [hk1] at c0
  rw [hk2] at c1
  rw [hk3] at c2
  rw [hk4] at c3
  rw [hk5] at c4
  have HBB := Lib.hid (HMGA.out ▸ HB.out)
  clear hr hk1 hk2 hk3 hk4 hk5 HB
  go_enter Tryd.func10, Tryd.ntmps10
  go_wp2_with fail
  rw [← hw1]
  clear hw1
  go_wp2_with fail
  refine HC.out.mono ?_
  rintro e w2 ⟨rfl, hf2⟩
  have HF2 := Lib.hid (HF.out.trans hf2)
  have HB2 := Lib.hid (HBB.out.fr hf2 (fun h => h))
  have HLT : Hid (w.heap.size < w2.heap.size) := by
    show _ < _
    exact HB2.out.lt
  clear hf2 HBB HF HC c0 c1 c2 c3 c4 c5 c6 c7
  have e0 : codeR true = 0 := rfl
  rw [e0]
  clear e0
  obtain ⟨w3, hw3⟩ : ∃ w3, w3 = w2.alloc (.cells #[.slice none 0 0] 51) := ⟨_, rfl⟩
  have HS3 : Hid (WS w w3 w3 w2.heap.size #[.int .i64 (k1 : Int), .int .i64 (k2 : Int), .int .i64 (k3 : Int), .int .i64 (k4 : Int), .int .i64 (k5 : Int), .int .u64 (m.ballot : Int), .string (bstr m.value), .slice m.va m.votes.length m.vc] (.slice none 0 0) (nums ([k1, k2, k3, k4, k5].take 0))) := by
    have hf : Fr NoBlk w2 w3 := by
      rw [hw3]
      exact (Fr.refl _ _).alloc _
    have hp : Pen w3 w2.heap.size w2.heap.size (.slice none 0 0) [] := by
      rw [hw3]
      exact ⟨Bk.new _ _ _, World.ownsRow_nil _ _ _ _⟩
    exact ⟨hp.wro, HB2.out.fr hf (fun h => h), HF2.out.trans hf, hf.size, HLT.out⟩
  obtain ⟨g, hg⟩ : ∃ g, g = w2.heap.size := ⟨_, rfl⟩
  rw [← hg] at HS3
  clear HB2 HF2 HLT
  go_upto_region 5 with fail
  rw [← hw3, ← hg]
  clear hw3 hg
  obtain ⟨c0, c1, c2, c3, c4, c5, c6, c7⟩ : _ := (show Bk w3 w.heap.size 26 #[.int .i64 (k1 : Int), .int .i64 (k2 : Int), .int .i64 (k3 : Int), .int .i64 (k4 : Int), .int .i64 (k5 : Int), .int .u64 (m.ballot : Int), .string (bstr m.value), .slice m.va m.votes.length m.vc] from HS3.out.bk).msg8
  go_wp2_with fail
  clear c0 c1 c2 c3 c4 c5 c6 c7
  go_loopw [28] (fun s wr => ∃ (k : Nat) (v' : Value), k ≤ 5 ∧ s = .int .i64 k ∧ Hid (WS w w3 wr g #[.int .i64 (k1 : Int), .int .i64 (k2 : Int), .int .i64 (k3 : Int), .int .i64 (k4 : Int), .int .i64 (k5 : Int), .int .u64 (m.ballot : Int), .string (bstr m.value), .slice m.va m.votes.length m.vc] v' (nums ([k1, k2, k3, k4, k5].take k)))) (fun s _ => 5 - (intOf s).toNat)
  case atStart => exact ⟨0, _, by omega, rfl, HS3⟩
  case round =>
    obtain ⟨k, v1, hk, rfl, HW⟩ := hrel
    have hk5 : k = 0 ∨ k = 1 ∨ k = 2 ∨ k = 3 ∨ k = 4 ∨ k = 5 := by omega
    clear hk
    rcases hk5 with rfl | rfl | rfl | rfl | rfl | rfl
    · have hl : (nums ([k1, k2, k3, k4, k5].take 0)).length ≤ 1000000 := by
        have h1 := HLEN.out
        have h2 := nums_le [k1, k2, k3, k4, k5] 0
        rw [HBODY.out, List.length_append] at h1
        omega
      have HK := Lib.hid (HW.out.num_ k1 (by omega) hl)
      have HSN := Lib.hid (nums_snoc [k1, k2, k3, k4, k5] 0 k1 rfl)
      have em : ((k1 : Int) % 18446744073709551616) = k1 := by omega
      have ix : ∀ w, (Instr.index 52 (.agg #[.int .i64 (k1 : Int), .int .i64 (k2 : Int), .int .i64 (k3 : Int), .int .i64 (k4 : Int), .int .i64 (k5 : Int)]) (.int .i64 ((0 : Nat) : Int))).run Tryd.prog w = .ok (.int .i64 (k1 : Int)) w := fun _ => by kernel_rfl
      have iy : ∀ w, (Instr.index 52 (.agg #[.int .i64 (k1 : Int), .int .i64 (k2 : Int), .int .i64 (k3 : Int), .int .i64 (k4 : Int), .int .i64 (k5 : Int)]) (.int .i64 0)).run Tryd.prog w = .ok (.int .i64 (k1 : Int)) w := fun _ => by kernel_rfl
      clear hl
      go_wp2_with fail
      refine HK.out.mono ?_
      rintro e wx ⟨rfl, v2, hw2, _⟩
      rw [← HSN.out] at hw2
      have HW2 := Lib.hid hw2
      clear hw2 HK HW em
      go_wp2_with fail
      go_roundw
      case rel => exact ⟨1, v2, by omega, by go_num, HW2⟩
      case measure => simp [intOf]
    · have hl : (nums ([k1, k2, k3, k4, k5].take 1)).length ≤ 1000000 := by
        have h1 := HLEN.out
        have h2 := nums_le [k1, k2, k3, k4, k5] 1
        rw [HBODY.out, List.length_append] at h1
        omega
      have HK := Lib.hid (HW.out.num_ k2 (by omega) hl)
      have HSN := Lib.hid (nums_snoc [k1, k2, k3, k4, k5] 1 k2 rfl)
      have em : ((k2 : Int) % 18446744073709551616) = k2 := by omega
      have ix : ∀ w, (Instr.index 52 (.agg #[.int .i64 (k1 : Int), .int .i64 (k2 : Int), .int .i64 (k3 : Int), .int .i64 (k4 : Int), .int .i64 (k5 : Int)]) (.int .i64 ((1 : Nat) : Int))).run Tryd.prog w = .ok (.int .i64 (k2 : Int)) w := fun _ => by kernel_rfl
      have iy : ∀ w, (Instr.index 52 (.agg #[.int .i64 (k1 : Int), .int .i64 (k2 : Int), .int .i64 (k3 : Int), .int .i64 (k4 : Int), .int .i64 (k5 : Int)]) (.int .i64 1)).run Tryd.prog w = .ok (.int .i64 (k2 : Int)) w := fun _ => by kernel_rfl
      clear hl
      go_wp2_with fail
      refine HK.out.mono ?_
      rintro e wx ⟨rfl, v2, hw2, _⟩
      rw [← HSN.out] at hw2
      have HW2 := Lib.hid hw2
      clear hw2 HK HW em
      go_wp2_with fail
      go_roundw
      case rel => exact ⟨2, v2, by omega, by go_num, HW2⟩
      case measure => simp [intOf]
    · have hl : (nums ([k1, k2, k3, k4, k5].take 2)).length ≤ 1000000 := by
        have h1 := HLEN.out
        have h2 := nums_le [k1, k2, k3, k4, k5] 2
        rw [HBODY.out, List.length_append] at h1
        omega
      have HK := Lib.hid (HW.out.num_ k3 (by omega) hl)
      have HSN := Lib.hid (nums_snoc [k1, k2, k3, k4, k5] 2 k3 rfl)
      have em : ((k3 : Int) % 18446744073709551616) = k3 := by omega
      have ix : ∀ w, (Instr.index 52 (.agg #[.int .i64 (k1 : Int), .int .i64 (k2 : Int), .int .i64 (k3 : Int), .int .i64 (k4 : Int), .int .i64 (k5 : Int)]) (.int .i64 ((2 : Nat) : Int))).run Tryd.prog w = .ok (.int .i64 (k3 : Int)) w := fun _ => by kernel_rfl
      have iy : ∀ w, (Instr.index 52 (.agg #[.int .i64 (k1 : Int), .int .i64 (k2 : Int), .int .i64 (k3 : Int), .int .i64 (k4 : Int), .int .i64 (k5 : Int)]) (.int .i64 2)).run Tryd.prog w = .ok (.int .i64 (k3 : Int)) w := fun _ => by kernel_rfl
      clear hl
      go_wp2_with fail
      refine HK.out.mono ?_
      rintro e wx ⟨rfl, v2, hw2, _⟩
      rw [← HSN.out] at hw2
      have HW2 := Lib.hid hw2
      clear hw2 HK HW em
      go_wp2_with fail
      go_roundw
      case rel => exact ⟨3, v2, by omega, by go_num, HW2⟩
      case measure => simp [intOf]
    · have hl : (nums ([k1, k2, k3, k4, k5].take 3)).length ≤ 1000000 := by
        have h1 := HLEN.out
        have h2 := nums_le [k1, k2, k3, k4, k5] 3
        rw [HBODY.out, List.length_append] at h1
        omega
      have HK := Lib.hid (HW.out.num_ k4 (by omega) hl)
      have HSN := Lib.hid (nums_snoc [k1, k2, k3, k4, k5] 3 k4 rfl)
      have em : ((k4 : Int) % 18446744073709551616) = k4 := by omega
      have ix : ∀ w, (Instr.index 52 (.agg #[.int .i64 (k1 : Int), .int .i64 (k2 : Int), .int .i64 (k3 : Int), .int .i64 (k4 : Int), .int .i64 (k5 : Int)]) (.int .i64 ((3 : Nat) : Int))).run Tryd.prog w = .ok (.int .i64 (k4 : Int)) w := fun _ => by kernel_rfl
      have iy : ∀ w, (Instr.index 52 (.agg #[.int .i64 (k1 : Int), .int .i64 (k2 : Int), .int .i64 (k3 : Int), .int .i64 (k4 : Int), .int .i64 (k5 : Int)]) (.int .i64 3)).run Tryd.prog w = .ok (.int .i64 (k4 : Int)) w := fun _ => by kernel_rfl
      clear hl
      go_wp2_with fail
      refine HK.out.mono ?_
      rintro e wx ⟨rfl, v2, hw2, _⟩
      rw [← HSN.out] at hw2
      have HW2 := Lib.hid hw2
      clear hw2 HK HW em
      go_wp2_with fail
      go_roundw
      case rel => exact ⟨4, v2, by omega, by go_num, HW2⟩
      case measure => simp [intOf]
    · have hl : (nums ([k1, k2, k3, k4, k5].take 4)).length ≤ 1000000 := by
        have h1 := HLEN.out
        have h2 := nums_le [k1, k2, k3, k4, k5] 4
        rw [HBODY.out, List.length_append] at h1
        omega
      have HK := Lib.hid (HW.out.num_ k5 (by omega) hl)
      have HSN := Lib.hid (nums_snoc [k1, k2, k3, k4, k5] 4 k5 rfl)
      have em : ((k5 : Int) % 18446744073709551616) = k5 := by omega
      have ix : ∀ w, (Instr.index 52 (.agg #[.int .i64 (k1 : Int), .int .i64 (k2 : Int), .int .i64 (k3 : Int), .int .i64 (k4 : Int), .int .i64 (k5 : Int)]) (.int .i64 ((4 : Nat) : Int))).run Tryd.prog w = .ok (.int .i64 (k5 : Int)) w := fun _ => by kernel_rfl
      have iy : ∀ w, (Instr.index 52 (.agg #[.int .i64 (k1 : Int), .int .i64 (k2 : Int), .int .i64 (k3 : Int), .int .i64 (k4 : Int), .int .i64 (k5 : Int)]) (.int .i64 4)).run Tryd.prog w = .ok (.int .i64 (k5 : Int)) w := fun _ => by kernel_rfl
      clear hl
      go_wp2_with fail
      refine HK.out.mono ?_
      rintro e wx ⟨rfl, v2, hw2, _⟩
      rw [← HSN.out] at hw2
      have HW2 := Lib.hid hw2
      clear hw2 HK HW em
      go_wp2_with fail
      go_roundw
      case rel => exact ⟨5, v2, by omega, by go_num, HW2⟩
      case measure => simp [intOf]
    · have HL5 : Hid ((nums [k1, k2, k3, k4, k5]).length ≤ 1000 ∧ m.ballot < 2 ^ 64 ∧ m.votes.length < 2 ^ 64 ∧ m.value.length ≤ 4096) := by
        have h1 := nums_len [k1, k2, k3, k4, k5] (fun x hx => by
          simp only [List.mem_cons, List.not_mem_nil, or_false] at hx
          rcases hx with rfl | rfl | rfl | rfl | rfl <;> omega)
        have h2 := HM.out.nums.1
        have h3 := HWM.out.few
        have h4 := HWM.out.value
        unfold two64 at h2
        simp only [List.length_cons, List.length_nil] at h1
        exact ⟨by omega, by omega, by omega, h4⟩
      have HS := Lib.hid (show WS w w3 wr g #[.int .i64 (k1 : Int), .int .i64 (k2 : Int), .int .i64 (k3 : Int), .int .i64 (k4 : Int), .int .i64 (k5 : Int), .int .u64 (m.ballot : Int), .string (bstr m.value), .slice m.va m.votes.length m.vc] v1 (nums [k1, k2, k3, k4, k5]) from HW.out)
      obtain ⟨c0, c1, c2, c3, c4, c5, c6, c7⟩ := HS.out.bk.msg8
      have HK := Lib.hid (HS.out.num_ m.ballot (by have := HL5.out; omega) (by have := HL5.out; omega))
      clear HW b1 b2 b3 b4 b5
      go_wp2_with fail
      refine HK.out.mono ?_
      rintro e w4 ⟨rfl, v4, hw4, _⟩
      have HS4 := Lib.hid hw4
      clear hw4 HK HS c0 c1 c2 c3 c4 c5 c6 c7
      obtain ⟨c0, c1, c2, c3, c4, c5, c6, c7⟩ := HS4.out.bk.msg8
      obtain ⟨W, cw, hcv, hrd, hfr⟩ := conv w4 m.value
      have HK := Lib.hid (HS4.out.text_ hfr m.value cw hrd (by have := HL5.out; omega) (by have h1 := HL5.out; have := num_len m.ballot (by omega); rw [List.length_append]; omega))
      clear hrd hfr
      go_wp2_with fail
      refine HK.out.mono ?_
      rintro e w5 ⟨rfl, v5, hw5, _⟩
      have HS5 := Lib.hid hw5
      clear hw5 HK HS4 c0 c1 c2 c3 c4 c5 c6 c7 hcv
      obtain ⟨c0, c1, c2, c3, c4, c5, c6, c7⟩ := HS5.out.bk.msg8
      have em : ((m.votes.length : Int) % 18446744073709551616) = m.votes.length := by have := HL5.out; omega
      have HL6 : Hid (((nums [k1, k2, k3, k4, k5] ++ num m.ballot) ++ textB m.value).length ≤ 1000000) := by
        have h1 := HL5.out
        have := num_len m.ballot (by omega)
        have := num_len m.value.length (by omega)
        show _ ≤ _
        unfold textB
        simp only [List.length_append]
        omega
      have HK := Lib.hid (HS5.out.num_ m.votes.length (by have := HL5.out; omega) HL6.out)
      go_wp2_with fail
      refine HK.out.mono ?_
      rintro e w6 ⟨rfl, v6, hw6, _⟩
      have HS6 := Lib.hid hw6
      clear hw6 HK HS5 HL6 c0 c1 c2 c3 c4 c5 c6 c7 em
      obtain ⟨c0, c1, c2, c3, c4, c5, c6, c7⟩ := HS6.out.bk.msg8
      go_wp2_with fail
      clear c0 c1 c2 c3 c4 c5 c6 c7
      obtain ⟨cs, hcs⟩ : ∃ cs : Array Value, cs = #[.int .i64 (k1 : Int), .int .i64 (k2 : Int), .int .i64 (k3 : Int), .int .i64 (k4 : Int), .int .i64 (k5 : Int), .int .u64 (m.ballot : Int), .string (bstr m.value), .slice m.va m.votes.length m.vc] := ⟨_, rfl⟩
      rw [← hcs] at HS6
      clear hcs
      go_loopw [54] (fun s wr => ∃ (k : Nat) (v' : Value), k ≤ m.votes.length ∧ s = .int .i64 k ∧ Hid (WS w w3 wr g cs v' (nums [k1, k2, k3, k4, k5] ++ (num m.ballot ++ (textB m.value ++ (num m.votes.length ++ (m.votes.take k).flatMap voteB)))))) (fun s _ => m.votes.length - (intOf s).toNat)
      case atStart => exact ⟨0, v6, by omega, rfl, by have h := HS6.out; show WS _ _ _ _ _ _ _; simpa [List.append_assoc] using h⟩
      case round =>
        obtain ⟨k, v7, hk, rfl, HW⟩ := hrel
        by_cases hlt : k < m.votes.length
        · obtain ⟨x, hx⟩ : ∃ x, m.votes[k]? = some x := ⟨_, List.getElem?_eq_getElem hlt⟩
          obtain ⟨b, o', hA, x0, x1, x2⟩ := (HM.out.votes.nofr HW.out.old).vote hx
          have hxb := HWM.out.votes x (List.mem_of_getElem? hx)
          have hxn := HM.out.nums.2 x (List.mem_of_getElem? hx)
          unfold two64 at hxn
          obtain ⟨sn, hsn⟩ : ∃ sn : Nat, x.slot = sn := ⟨x.slot.toNat, by omega⟩
          have HSN := Lib.hid (flat_snoc voteB m.votes k x hx)
          have HXB : Hid (voteB x = num sn ++ (num x.ballot ++ textB x.value)) := by
            show _ = _
            unfold voteB
            rw [hsn]
            rfl
          have HLN : Hid ((nums [k1, k2, k3, k4, k5] ++ (num m.ballot ++ (textB m.value ++ (num m.votes.length ++ (m.votes.take k).flatMap voteB)))).length + (num sn).length + (num x.ballot).length ≤ 1000000) := by
            have h1 := HLEN.out
            have h2 := flat_le voteB m.votes k
            have h3 := num_len sn (by omega)
            have h4 := num_len x.ballot (by omega)
            rw [HBODY.out] at h1
            show _ ≤ _
            simp only [List.length_append] at h1 ⊢
            omega
          have HXN : Hid (sn < 2 ^ 64 ∧ x.ballot < 2 ^ 64 ∧ x.value.length ≤ 4096) := ⟨by omega, by omega, by omega⟩
          rw [hsn] at x0
          obtain ⟨wb, hwb⟩ : ∃ wb, wb = wr.alloc (.cells #[.int .i64 (sn : Int), .int .u64 (x.ballot : Int), .string (bstr x.value)] 48) := ⟨_, rfl⟩
          have HSB : Hid (WS w w3 wb g cs v7 (nums [k1, k2, k3, k4, k5] ++ (num m.ballot ++ (textB m.value ++ (num m.votes.length ++ (m.votes.take k).flatMap voteB))))) := by
            show WS _ _ _ _ _ _ _
            rw [hwb]
            exact HW.out.nofr ((Fr.refl _ _).alloc _)
          have HVB : Hid (Bk wb wr.heap.size 48 #[.int .i64 (sn : Int), .int .u64 (x.ballot : Int), .string (bstr x.value)]) := by
            show Bk _ _ _ _
            rw [hwb]
            exact Bk.new wr _ _
          obtain ⟨gv, hgv⟩ : ∃ gv, gv = wr.heap.size := ⟨_, rfl⟩
          rw [← hgv] at HVB
          have y0 : wb.cell? ⟨gv, 0, none⟩ = some (.int .i64 (sn : Int)) := HVB.out.cell 0
          have HK := Lib.hid (HSB.out.num_ sn HXN.out.1 (by have := HLN.out; omega))
          have em : ((sn : Int) % 18446744073709551616) = sn := by omega
          rw [hA]
          clear hx hA hxb hxn hsn
          go_upto_region 16 with fail
          rw [← hwb, ← hgv]
          clear hwb hgv x0 x1 x2
          go_wp2_with fail
          refine HK.out.mono ?_
          rintro e wc ⟨rfl, vc, hwc, hkc⟩
          have HSC := Lib.hid hwc
          have HVC := Lib.hid (hkc _ _ _ HVB.out (by decide) (by decide))
          clear hwc hkc HK em y0 HSB HVB HW
          have y1 : wc.cell? ⟨gv, 1, none⟩ = some (.int .u64 (x.ballot : Int)) := HVC.out.cell 1
          have HK := Lib.hid (HSC.out.num_ x.ballot HXN.out.2.1 (by have := HLN.out; rw [List.length_append]; omega))
          go_wp2_with fail
          refine HK.out.mono ?_
          rintro e wd ⟨rfl, vd, hwd, hkd⟩
          have HSD := Lib.hid hwd
          have HVD := Lib.hid (hkd _ _ _ HVC.out (by decide) (by decide))
          clear hwd hkd HK y1 HSC HVC
          have y2 : wd.cell? ⟨gv, 2, none⟩ = some (.string (bstr x.value)) := HVD.out.cell 2
          obtain ⟨W, cw, hcv, hrd, hfr⟩ := conv wd x.value
          have HK := Lib.hid (HSD.out.text_ hfr x.value cw hrd (by have := HXN.out; omega) (by have := HLN.out; rw [List.length_append, List.length_append]; omega))
          clear hrd hfr
          go_wp2_with fail
          refine HK.out.mono ?_
          rintro e we ⟨rfl, ve, hwe, _⟩
          have HX : Hid (WS w w3 we g cs ve (nums [k1, k2, k3, k4, k5] ++ (num m.ballot ++ (textB m.value ++ (num m.votes.length ++ (m.votes.take (k + 1)).flatMap voteB))))) := by
            show WS _ _ _ _ _ _ _
            rw [HSN.out, HXB.out]
            simpa [List.append_assoc] using hwe
          clear hwe HK y2 HSD HVD hcv
          have hfew : m.votes.length ≤ 64 := HWM.out.few
          go_wp2_with fail
          go_roundw
          case rel => exact ⟨k + 1, ve, by omega, by go_num, HX⟩
          case measure => simp [intOf]; omega
        · have HTK : Hid (m.votes.take k = m.votes) := List.take_of_length_le (by omega)
          have hw := HW.out
          rw [HTK.out, ← HBODY.out] at hw
          have HS8 := Lib.hid hw
          clear hw HW HTK
          have HD := Lib.hid (data_any wr g g v7 (bodyB m) HS8.out.wro.pen (by have := HLEN.out; omega))
          go_wp2_with fail
          refine HD.out.mono ?_
          rintro e w9 ⟨v9, rfl, hn9⟩
          obtain ⟨A9, c9, rfl, _, _⟩ := own_form hn9.own
          have HS9 := Lib.hid (HS8.out.nofr hn9.fr)
          have HSU := Lib.hid (sum_any w9 (HT.out.fr HS9.out.old (fun h => h)) (bodyB m) A9 (bodyB m).length c9 rfl (by have := HLEN.out; omega) (Rd.of_own hn9.own))
          have HSN : Hid (((Crc.crc (bodyB m)).toNat : Nat) = sumN (bodyB m)) := rfl
          clear hn9 HD HS8
          go_wp2_with fail
          refine HSU.out.mono ?_
          rintro e wx ⟨rfl, rfl⟩
          rw [HSN.out]
          obtain ⟨sn, hsn⟩ : ∃ sn, sn = sumN (bodyB m) := ⟨_, rfl⟩
          have hsl : sn < 4294967296 := by rw [hsn]; exact sumN_lt _
          have HMB : Hid (msgB m = bodyB m ++ num sn) := by
            show _ = _
            rw [hsn]
            rfl
          rw [← hsn]
          have em : ((sn : Int) % 18446744073709551616) = sn := by omega
          have HK := Lib.hid (HS9.out.num_ sn (by omega) (by have := HLEN.out; omega))
          have HSL : Hid ((num sn).length ≤ 10) := num_len sn (by omega)
          clear hsn hsl HSU HSN
          go_wp2_with fail
          refine HK.out.mono ?_
          rintro e wa ⟨rfl, va, hwa, _⟩
          rw [← HMB.out] at hwa
          have HSA := Lib.hid hwa
          have HD := Lib.hid (data_any wa g g va (msgB m) hwa.wro.pen (by have h1 := HLEN.out; have h2 := HSL.out; rw [HMB.out, List.length_append]; omega))
          clear hwa HK HS9 em
          go_wp2_with fail
          refine HD.out.mono ?_
          rintro e wz ⟨vz, rfl, hnz⟩
          have HN : Hid (New w wz vz (msgB m)) := ⟨own_base hnz.own HSA.out.old.size, HSA.out.old.trans hnz.fr⟩
          clear hnz HD
          go_wp2_with fail
          go_ret2
          rw [HWP.out, if_pos HR.out]
          exact ⟨_, rfl, HN.out⟩
end Go.Proofs.YtdpjmkgjjhcgeaaDoor
