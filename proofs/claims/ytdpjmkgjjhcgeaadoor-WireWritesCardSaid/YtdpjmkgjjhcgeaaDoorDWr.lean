/- A message's bytes, as the law has them. Conditions: the message lies in memory. -/
import Derived.Test.YtdpjmkgjjhcgeaaDoorRight18
import Derived.Test.YtdpjmkgjjhcgeaaDoorDSum
import Derived.Test.YtdpjmkgjjhcgeaaDoorWr
namespace Go.Proofs.YtdpjmkgjjhcgeaaDoor
open Go.RowKit

structure DW (w wr : World) (cs : Array Value) (v : Value) (l : List UInt8) : Prop where
  bm : Bk wr w.heap.size 36 cs
  own : wr.ownsRow w.heap.size 5 1 v l.length (cb l)
  fr : Fr NoBlk w wr
theorem DW.nofr {w wr w' : World} {cs : Array Value} {v : Value} {l : List UInt8} (h : DW w wr cs v l) (hf : Fr NoBlk wr w') : DW w w' cs v l :=
  ⟨h.bm.fr hf (fun h => h), own_fr h.own hf (fun _ _ h => h), h.fr.trans hf⟩
theorem DW.app {w wr w1 w2 : World} {cs : Array Value} {v v' : Value} {l d : List UInt8} (h : DW w wr cs v l) (hf : Fr NoBlk wr w1) (ho : w2.ownsRow w.heap.size 5 1 v' (l.length + d.length) (cb l ++ cb d)) (hg : w1.grownBy w2 v.ownBlock) : DW w w2 cs v' (l ++ d) :=
  ⟨(h.nofr hf).bm.fr (Fr.ofGrown hg) (fun e => own_apart h.own h.bm (by decide) e.symm), by rw [List.length_append, cb_append]; exact ho, (h.fr.trans hf).grown hg (fun k hk hlt => absurd (own_blk h.own hk).1 (by omega))⟩
/-- a block of another type stays beside an append. -/
theorem Bk.app {w wr w1 w2 : World} {cs : Array Value} {v : Value} {l : List UInt8} {g : Nat} {T : TypeId} {xs : Array Value} (hb : Bk wr g T xs) (h : DW w wr cs v l) (hf : Fr NoBlk wr w1) (hg : w1.grownBy w2 v.ownBlock) (hT : 5 ≠ T) : Bk w2 g T xs :=
  (hb.fr hf (fun h => h)).fr (Fr.ofGrown hg) (fun e => own_apart h.own hb hT e.symm)
def DWPost (w : World) (m : Mg) (e : Ending) (w' : World) : Prop := ∃ v, e = .returned (.tuple #[v, .int .i64 (codeR (rightM m))]) ∧ New w w' v (if rightM m = true then msgB m else [])

set_option maxRecDepth 100000 in
set_option maxHeartbeats 8000000 in
theorem dwrite_any (w : World) (m : Mg) (hm : MgIn w m) : Calls Tryd.prog 11 #[mgv m] w (DWPost w m) := by
  obtain ⟨i0, hi, hz0, hz1, hz2⟩ := info_parts byteInfo
  obtain ⟨w1, hw1⟩ : ∃ w1, w1 = w.alloc (.cells (mga m) 36) := ⟨_, rfl⟩
  have HF : Hid (Fr NoBlk w w1) := by
    show Fr _ _ _
    rw [hw1]
    exact (Fr.refl _ _).alloc _
  have HB : Hid (Bk w1 w.heap.size 36 (mga m)) := by
    show Bk _ _ _ _
    rw [hw1]
    exact Bk.new w _ _
  have HM := Lib.hid hm
  have HC := Lib.hid (dright_any w1 m (hm.nofr HF.out))
  have HP : Hid (∀ e w', DWPost w m e w' = ∃ v, e = .returned (.tuple #[v, .int .i64 (codeR (rightM m))]) ∧ New w w' v (if rightM m = true then msgB m else [])) := fun _ _ => rfl
  clear hm
  unfold mgv mga at HC ⊢
  unfold mga at hw1
  obtain ⟨c0, c1, c2, c3, c4, c5, c6, c7⟩ := HB.out.msg
  by_cases hr : rightM m = true
  rotate_left
  · have HR := Lib.hid hr
    rw [Bool.eq_false_iff.2 hr] at HC
    clear hr
    go_enter Tryd.func11, Tryd.ntmps11
    go_wp2_with fail
    rw [← hw1]
    clear hw1
    go_wp2_with fail
    refine HC.out.mono ?_
    rintro e w2 ⟨rfl, hf2⟩
    have HF2 := Lib.hid (HF.out.trans hf2)
    clear hf2 HB HF HC c0 c1 c2 c3 c4 c5 c6 c7
    have HO := Lib.hid (own_new (w := w2) (h := w2.heap.size) (B := w.heap.size) (t := 5) rfl HF2.out.size)
    have HF3 : Hid (Fr NoBlk w (w2.alloc (.cells #[] 5))) := HF2.out.alloc _
    go_wp2_with fail
    go_ret2
    rw [HP.out, if_neg HR.out, Bool.eq_false_iff.2 HR.out]
    exact ⟨_, rfl, HO.out, HF3.out⟩
  have HWM := Lib.hid (rightM_wmg hr)
  have HLEN := Lib.hid (bodyB_len HWM.out HM.out.nums)
  have HR := Lib.hid hr
  rw [hr] at HC
  obtain ⟨k1, hk1⟩ : ∃ k : Nat, m.kind = k := ⟨m.kind.toNat, by have := HWM.out.kind; omega⟩
  obtain ⟨k2, hk2⟩ : ∃ k : Nat, m.frm = k := ⟨m.frm.toNat, by have := HWM.out.frm; omega⟩
  obtain ⟨k3, hk3⟩ : ∃ k : Nat, m.dst = k := ⟨m.dst.toNat, by have := HWM.out.dst; omega⟩
  obtain ⟨k4, hk4⟩ : ∃ k : Nat, m.grp = k := ⟨m.grp.toNat, by have := HWM.out.grp; omega⟩
  obtain ⟨k5, hk5⟩ : ∃ k : Nat, m.slot = k := ⟨m.slot.toNat, by have := HWM.out.slot; omega⟩
  have b1 : k1 ≤ 9 := by have := HWM.out.kind; omega
  have em1 : ((k1 : Int) % 18446744073709551616) = k1 := by omega
  have b2 : k2 ≤ 8 := by have := HWM.out.frm; omega
  have em2 : ((k2 : Int) % 18446744073709551616) = k2 := by omega
  have b3 : k3 ≤ 8 := by have := HWM.out.dst; omega
  have em3 : ((k3 : Int) % 18446744073709551616) = k3 := by omega
  have b4 : k4 ≤ 3 := by have := HWM.out.grp; omega
  have em4 : ((k4 : Int) % 18446744073709551616) = k4 := by omega
  have b5 : k5 ≤ 64 := by have := HWM.out.slot; omega
  have em5 : ((k5 : Int) % 18446744073709551616) = k5 := by omega
  have HBODY : Hid (bodyB m = nums [k1, k2, k3, k4, k5, m.ballot] ++ (textB m.value ++ (num m.votes.length ++ m.votes.flatMap voteB))) := by
    show _ = _
    unfold bodyB headB nums
    rw [hk1, hk2, hk3, hk4, hk5]
    simp [List.append_assoc]
  have HMGA : Hid (mga m = #[.int .i64 (k1 : Int), .int .i64 (k2 : Int), .int .i64 (k3 : Int), .int .i64 (k4 : Int), .int .i64 (k5 : Int), .int .u64 (m.ballot : Int), .string (bstr m.value), .slice m.va m.votes.length m.vc]) := by
    show _ = _
    unfold mga
    rw [hk1, hk2, hk3, hk4, hk5]
  rw [hk1, hk2, hk3, hk4, hk5] at HC ⊢
  rw [hk1, hk2, hk3, hk4, hk5] at hw1
  rw [hk1] at c0
  rw [hk2] at c1
  rw [hk3] at c2
  rw [hk4] at c3
  rw [hk5] at c4
  have HBB := Lib.hid (HMGA.out ▸ HB.out)
  clear hr hk1 hk2 hk3 hk4 hk5 HB
  go_enter Tryd.func11, Tryd.ntmps11
  go_wp2_with fail
  rw [← hw1]
  clear hw1
  go_wp2_with fail
  refine HC.out.mono ?_
  rintro e w2 ⟨rfl, hf2⟩
  have HF2 := Lib.hid (HF.out.trans hf2)
  have HB2 := Lib.hid (HBB.out.fr hf2 (fun h => h))
  clear hf2 HBB HF HC c0 c1 c2 c3 c4 c5 c6 c7
  obtain ⟨c0, c1, c2, c3, c4, c5, c6, c7⟩ := HB2.out.msg8
  obtain ⟨w3, hw3⟩ : ∃ w3, w3 = w2.alloc (.cells #[] 5) := ⟨_, rfl⟩
  obtain ⟨g2, hg2⟩ : ∃ g2, g2 = w2.heap.size := ⟨_, rfl⟩
  have HS3 : Hid (DW w w3 #[.int .i64 (k1 : Int), .int .i64 (k2 : Int), .int .i64 (k3 : Int), .int .i64 (k4 : Int), .int .i64 (k5 : Int), .int .u64 (m.ballot : Int), .string (bstr m.value), .slice m.va m.votes.length m.vc] (.slice (some ⟨g2, 0, none⟩) 0 0) []) := by
    show DW _ _ _ _ _
    rw [hw3]
    exact ⟨HB2.out.alloc _, own_new hg2 HF2.out.size, HF2.out.alloc _⟩
  clear HB2 HF2
  go_upto_region 4 with fail
  rw [← hw3, ← hg2]
  clear hw3 hg2 c0 c1 c2 c3 c4 c5 c6 c7
  obtain ⟨c0, c1, c2, c3, c4, c5, c6, c7⟩ := HS3.out.bm.msg8
  obtain ⟨w4, hw4⟩ : ∃ w4, w4 = w3.alloc (.cells #[.int .u64 (k1 : Int), .int .u64 (k2 : Int), .int .u64 (k3 : Int), .int .u64 (k4 : Int), .int .u64 (k5 : Int), .int .u64 (m.ballot : Int)] 59) := ⟨_, rfl⟩
  obtain ⟨gl, hgl⟩ : ∃ gl, gl = w3.heap.size := ⟨_, rfl⟩
  have HS4 : Hid (DW w w4 #[.int .i64 (k1 : Int), .int .i64 (k2 : Int), .int .i64 (k3 : Int), .int .i64 (k4 : Int), .int .i64 (k5 : Int), .int .u64 (m.ballot : Int), .string (bstr m.value), .slice m.va m.votes.length m.vc] (.slice (some ⟨g2, 0, none⟩) 0 0) (nums ([k1, k2, k3, k4, k5, m.ballot].take 0))) := by
    show DW _ _ _ _ _
    rw [hw4]
    exact HS3.out.nofr ((Fr.refl _ _).alloc _)
  have HL4 : Hid (Bk w4 gl 59 #[.int .u64 (k1 : Int), .int .u64 (k2 : Int), .int .u64 (k3 : Int), .int .u64 (k4 : Int), .int .u64 (k5 : Int), .int .u64 (m.ballot : Int)]) := by
    show Bk _ _ _ _
    rw [hw4]
    exact Bk.new' _ _ _ hgl
  have HNS : Hid ((nums [k1, k2, k3, k4, k5, m.ballot]).length ≤ 60) := by
    have h1 := nums_len [k1, k2, k3, k4, k5, m.ballot] (fun x hx => by
      have hb := HM.out.nums.1
      unfold two64 at hb
      simp only [List.mem_cons, List.not_mem_nil, or_false] at hx
      rcases hx with rfl | rfl | rfl | rfl | rfl | rfl <;> omega)
    show _ ≤ _
    simpa using h1
  have HBAL : Hid (m.ballot < 2 ^ 64) := by have hb := HM.out.nums.1; unfold two64 at hb; show _ < _; omega
  clear HS3
  go_upto_region 5 with fail
  rw [← hw4, ← hgl]
  clear hw4 hgl c0 c1 c2 c3 c4 c5 c6 c7
  go_wp2_with fail
  go_loopw [4, 6] (fun s t wr => ∃ (k : Nat) (A : Option Addr) (c : Nat), k ≤ 6 ∧ s = .slice A (nums ([k1, k2, k3, k4, k5, m.ballot].take k)).length c ∧ t = .int .i64 k ∧ Hid (DW w wr #[.int .i64 (k1 : Int), .int .i64 (k2 : Int), .int .i64 (k3 : Int), .int .i64 (k4 : Int), .int .i64 (k5 : Int), .int .u64 (m.ballot : Int), .string (bstr m.value), .slice m.va m.votes.length m.vc] (.slice A (nums ([k1, k2, k3, k4, k5, m.ballot].take k)).length c) (nums ([k1, k2, k3, k4, k5, m.ballot].take k))) ∧ Hid (Bk wr gl 59 #[.int .u64 (k1 : Int), .int .u64 (k2 : Int), .int .u64 (k3 : Int), .int .u64 (k4 : Int), .int .u64 (k5 : Int), .int .u64 (m.ballot : Int)])) (fun _ t _ => 6 - (intOf t).toNat)
  case atStart => exact ⟨0, _, _, by omega, rfl, rfl, HS4, HL4⟩
  case round =>
    obtain ⟨k, A, c, hk, rfl, rfl, HW, HL⟩ := hrel
    have hk6 : k = 0 ∨ k = 1 ∨ k = 2 ∨ k = 3 ∨ k = 4 ∨ k = 5 ∨ k = 6 := by omega
    clear hk
    rcases hk6 with rfl | rfl | rfl | rfl | rfl | rfl | rfl
    · have HSN := Lib.hid (nums_snoc [k1, k2, k3, k4, k5, m.ballot] 0 k1 rfl)
      have HLE : Hid ((nums ([k1, k2, k3, k4, k5, m.ballot].take 0)).length ≤ 60) := Nat.le_trans (nums_le _ _) HNS.out
      have cl := HL.out.cell 0
      simp only [List.getElem?_toArray, List.getElem?_cons_zero] at cl
      have HK := Lib.hid (refnum_any wr k1 (by omega))
      obtain ⟨lj, hlj⟩ : ∃ lj, lj = nums ([k1, k2, k3, k4, k5, m.ballot].take 0) := ⟨_, rfl⟩
      rw [← hlj] at HW HLE HSN ⊢
      have HLJ := Lib.hid hlj
      clear hlj
      go_wp2_with fail
      refine HK.out.mono ?_
      rintro e w5 ⟨v5, rfl, hn5⟩
      obtain ⟨A5, c5, rfl, _, _⟩ := own_form hn5.own
      have HN := Lib.hid hn5
      have HLN : Hid ((num k1).length ≤ 10) := num_len _ (by omega)
      clear hn5 HK cl
      go_wp2_with (at_builtin; refine wpList_app rfl _ _ 28 rfl w.heap.size 5 i0 (.int .u8 0) 1 Tryd.underlying28 hi hz0 hz1 hz2 rfl _ _ _ rfl (own_fr HW.out.own HN.out.fr (fun _ _ h => h)) A5 c5 (num k1).length (cb (num k1)) rfl (cb_length _) (Rd.of_own HN.out.own) (cb_one _) (own_lens HN.out.own).2.2 ?q3 ?q4 (HW.out.nofr HN.out.fr).fr.size ?_)
      case q3 => have := HLE.out; have := HLN.out; unfold maxLen; omega
      case q4 => have := HLE.out; have := HLN.out; omega
      intro v6 w6 ho hg _ _
      obtain ⟨A6, c6, rfl, _, _⟩ := own_form ho
      have HX := Lib.hid (HW.out.app (d := num k1) HN.out.fr ho hg)
      have HLX := Lib.hid (HL.out.app HW.out HN.out.fr hg (by decide))
      rw [← HSN.out] at HX
      have HXL : Hid (lj.length + (num k1).length = (nums ([k1, k2, k3, k4, k5, m.ballot].take 1)).length) := by show _ = _; rw [HSN.out, List.length_append]
      rw [HXL.out] at HX ⊢
      clear ho hg HN HW HL
      go_wp2_with fail
      go_roundw
      case rel => exact ⟨1, A6, c6, by omega, rfl, by go_num, HX, HLX⟩
      case measure => simp [intOf]
    · have HSN := Lib.hid (nums_snoc [k1, k2, k3, k4, k5, m.ballot] 1 k2 rfl)
      have HLE : Hid ((nums ([k1, k2, k3, k4, k5, m.ballot].take 1)).length ≤ 60) := Nat.le_trans (nums_le _ _) HNS.out
      have cl := HL.out.cell 1
      simp only [List.getElem?_toArray, List.getElem?_cons_succ, List.getElem?_cons_zero] at cl
      have HK := Lib.hid (refnum_any wr k2 (by omega))
      obtain ⟨lj, hlj⟩ : ∃ lj, lj = nums ([k1, k2, k3, k4, k5, m.ballot].take 1) := ⟨_, rfl⟩
      rw [← hlj] at HW HLE HSN ⊢
      have HLJ := Lib.hid hlj
      clear hlj
      go_wp2_with fail
      refine HK.out.mono ?_
      rintro e w5 ⟨v5, rfl, hn5⟩
      obtain ⟨A5, c5, rfl, _, _⟩ := own_form hn5.own
      have HN := Lib.hid hn5
      have HLN : Hid ((num k2).length ≤ 10) := num_len _ (by omega)
      clear hn5 HK cl
      go_wp2_with (at_builtin; refine wpList_app rfl _ _ 28 rfl w.heap.size 5 i0 (.int .u8 0) 1 Tryd.underlying28 hi hz0 hz1 hz2 rfl _ _ _ rfl (own_fr HW.out.own HN.out.fr (fun _ _ h => h)) A5 c5 (num k2).length (cb (num k2)) rfl (cb_length _) (Rd.of_own HN.out.own) (cb_one _) (own_lens HN.out.own).2.2 ?q3 ?q4 (HW.out.nofr HN.out.fr).fr.size ?_)
      case q3 => have := HLE.out; have := HLN.out; unfold maxLen; omega
      case q4 => have := HLE.out; have := HLN.out; omega
      intro v6 w6 ho hg _ _
      obtain ⟨A6, c6, rfl, _, _⟩ := own_form ho
      have HX := Lib.hid (HW.out.app (d := num k2) HN.out.fr ho hg)
      have HLX := Lib.hid (HL.out.app HW.out HN.out.fr hg (by decide))
      rw [← HSN.out] at HX
      have HXL : Hid (lj.length + (num k2).length = (nums ([k1, k2, k3, k4, k5, m.ballot].take 2)).length) := by show _ = _; rw [HSN.out, List.length_append]
      rw [HXL.out] at HX ⊢
      clear ho hg HN HW HL
      go_wp2_with fail
      go_roundw
      case rel => exact ⟨2, A6, c6, by omega, rfl, by go_num, HX, HLX⟩
      case measure => simp [intOf]
    · have HSN := Lib.hid (nums_snoc [k1, k2, k3, k4, k5, m.ballot] 2 k3 rfl)
      have HLE : Hid ((nums ([k1, k2, k3, k4, k5, m.ballot].take 2)).length ≤ 60) := Nat.le_trans (nums_le _ _) HNS.out
      have cl := HL.out.cell 2
      simp only [List.getElem?_toArray, List.getElem?_cons_succ, List.getElem?_cons_zero] at cl
      have HK := Lib.hid (refnum_any wr k3 (by omega))
      obtain ⟨lj, hlj⟩ : ∃ lj, lj = nums ([k1, k2, k3, k4, k5, m.ballot].take 2) := ⟨_, rfl⟩
      rw [← hlj] at HW HLE HSN ⊢
      have HLJ := Lib.hid hlj
      clear hlj
      go_wp2_with fail
      refine HK.out.mono ?_
      rintro e w5 ⟨v5, rfl, hn5⟩
      obtain ⟨A5, c5, rfl, _, _⟩ := own_form hn5.own
      have HN := Lib.hid hn5
      have HLN : Hid ((num k3).length ≤ 10) := num_len _ (by omega)
      clear hn5 HK cl
      go_wp2_with (at_builtin; refine wpList_app rfl _ _ 28 rfl w.heap.size 5 i0 (.int .u8 0) 1 Tryd.underlying28 hi hz0 hz1 hz2 rfl _ _ _ rfl (own_fr HW.out.own HN.out.fr (fun _ _ h => h)) A5 c5 (num k3).length (cb (num k3)) rfl (cb_length _) (Rd.of_own HN.out.own) (cb_one _) (own_lens HN.out.own).2.2 ?q3 ?q4 (HW.out.nofr HN.out.fr).fr.size ?_)
      case q3 => have := HLE.out; have := HLN.out; unfold maxLen; omega
      case q4 => have := HLE.out; have := HLN.out; omega
      intro v6 w6 ho hg _ _
      obtain ⟨A6, c6, rfl, _, _⟩ := own_form ho
      have HX := Lib.hid (HW.out.app (d := num k3) HN.out.fr ho hg)
      have HLX := Lib.hid (HL.out.app HW.out HN.out.fr hg (by decide))
      rw [← HSN.out] at HX
      have HXL : Hid (lj.length + (num k3).length = (nums ([k1, k2, k3, k4, k5, m.ballot].take 3)).length) := by show _ = _; rw [HSN.out, List.length_append]
      rw [HXL.out] at HX ⊢
      clear ho hg HN HW HL
      go_wp2_with fail
      go_roundw
      case rel => exact ⟨3, A6, c6, by omega, rfl, by go_num, HX, HLX⟩
      case measure => simp [intOf]
    · have HSN := Lib.hid (nums_snoc [k1, k2, k3, k4, k5, m.ballot] 3 k4 rfl)
      have HLE : Hid ((nums ([k1, k2, k3, k4, k5, m.ballot].take 3)).length ≤ 60) := Nat.le_trans (nums_le _ _) HNS.out
      have cl := HL.out.cell 3
      simp only [List.getElem?_toArray, List.getElem?_cons_succ, List.getElem?_cons_zero] at cl
      have HK := Lib.hid (refnum_any wr k4 (by omega))
      obtain ⟨lj, hlj⟩ : ∃ lj, lj = nums ([k1, k2, k3, k4, k5, m.ballot].take 3) := ⟨_, rfl⟩
      rw [← hlj] at HW HLE HSN ⊢
      have HLJ := Lib.hid hlj
      clear hlj
      go_wp2_with fail
      refine HK.out.mono ?_
      rintro e w5 ⟨v5, rfl, hn5⟩
      obtain ⟨A5, c5, rfl, _, _⟩ := own_form hn5.own
      have HN := Lib.hid hn5
      have HLN : Hid ((num k4).length ≤ 10) := num_len _ (by omega)
      clear hn5 HK cl
      go_wp2_with (at_builtin; refine wpList_app rfl _ _ 28 rfl w.heap.size 5 i0 (.int .u8 0) 1 Tryd.underlying28 hi hz0 hz1 hz2 rfl _ _ _ rfl (own_fr HW.out.own HN.out.fr (fun _ _ h => h)) A5 c5 (num k4).length (cb (num k4)) rfl (cb_length _) (Rd.of_own HN.out.own) (cb_one _) (own_lens HN.out.own).2.2 ?q3 ?q4 (HW.out.nofr HN.out.fr).fr.size ?_)
      case q3 => have := HLE.out; have := HLN.out; unfold maxLen; omega
      case q4 => have := HLE.out; have := HLN.out; omega
      intro v6 w6 ho hg _ _
      obtain ⟨A6, c6, rfl, _, _⟩ := own_form ho
      have HX := Lib.hid (HW.out.app (d := num k4) HN.out.fr ho hg)
      have HLX := Lib.hid (HL.out.app HW.out HN.out.fr hg (by decide))
      rw [← HSN.out] at HX
      have HXL : Hid (lj.length + (num k4).length = (nums ([k1, k2, k3, k4, k5, m.ballot].take 4)).length) := by show _ = _; rw [HSN.out, List.length_append]
      rw [HXL.out] at HX ⊢
      clear ho hg HN HW HL
      go_wp2_with fail
      go_roundw
      case rel => exact ⟨4, A6, c6, by omega, rfl, by go_num, HX, HLX⟩
      case measure => simp [intOf]
    · have HSN := Lib.hid (nums_snoc [k1, k2, k3, k4, k5, m.ballot] 4 k5 rfl)
      have HLE : Hid ((nums ([k1, k2, k3, k4, k5, m.ballot].take 4)).length ≤ 60) := Nat.le_trans (nums_le _ _) HNS.out
      have cl := HL.out.cell 4
      simp only [List.getElem?_toArray, List.getElem?_cons_succ, List.getElem?_cons_zero] at cl
      have HK := Lib.hid (refnum_any wr k5 (by omega))
      obtain ⟨lj, hlj⟩ : ∃ lj, lj = nums ([k1, k2, k3, k4, k5, m.ballot].take 4) := ⟨_, rfl⟩
      rw [← hlj] at HW HLE HSN ⊢
      have HLJ := Lib.hid hlj
      clear hlj
      go_wp2_with fail
      refine HK.out.mono ?_
      rintro e w5 ⟨v5, rfl, hn5⟩
      obtain ⟨A5, c5, rfl, _, _⟩ := own_form hn5.own
      have HN := Lib.hid hn5
      have HLN : Hid ((num k5).length ≤ 10) := num_len _ (by omega)
      clear hn5 HK cl
      go_wp2_with (at_builtin; refine wpList_app rfl _ _ 28 rfl w.heap.size 5 i0 (.int .u8 0) 1 Tryd.underlying28 hi hz0 hz1 hz2 rfl _ _ _ rfl (own_fr HW.out.own HN.out.fr (fun _ _ h => h)) A5 c5 (num k5).length (cb (num k5)) rfl (cb_length _) (Rd.of_own HN.out.own) (cb_one _) (own_lens HN.out.own).2.2 ?q3 ?q4 (HW.out.nofr HN.out.fr).fr.size ?_)
      case q3 => have := HLE.out; have := HLN.out; unfold maxLen; omega
      case q4 => have := HLE.out; have := HLN.out; omega
      intro v6 w6 ho hg _ _
      obtain ⟨A6, c6, rfl, _, _⟩ := own_form ho
      have HX := Lib.hid (HW.out.app (d := num k5) HN.out.fr ho hg)
      have HLX := Lib.hid (HL.out.app HW.out HN.out.fr hg (by decide))
      rw [← HSN.out] at HX
      have HXL : Hid (lj.length + (num k5).length = (nums ([k1, k2, k3, k4, k5, m.ballot].take 5)).length) := by show _ = _; rw [HSN.out, List.length_append]
      rw [HXL.out] at HX ⊢
      clear ho hg HN HW HL
      go_wp2_with fail
      go_roundw
      case rel => exact ⟨5, A6, c6, by omega, rfl, by go_num, HX, HLX⟩
      case measure => simp [intOf]
    · have HSN := Lib.hid (nums_snoc [k1, k2, k3, k4, k5, m.ballot] 5 m.ballot rfl)
      have HLE : Hid ((nums ([k1, k2, k3, k4, k5, m.ballot].take 5)).length ≤ 60) := Nat.le_trans (nums_le _ _) HNS.out
      have cl := HL.out.cell 5
      simp only [List.getElem?_toArray, List.getElem?_cons_succ, List.getElem?_cons_zero] at cl
      have HK := Lib.hid (refnum_any wr m.ballot (by have := HBAL.out; omega))
      obtain ⟨lj, hlj⟩ : ∃ lj, lj = nums ([k1, k2, k3, k4, k5, m.ballot].take 5) := ⟨_, rfl⟩
      rw [← hlj] at HW HLE HSN ⊢
      have HLJ := Lib.hid hlj
      clear hlj
      go_wp2_with fail
      refine HK.out.mono ?_
      rintro e w5 ⟨v5, rfl, hn5⟩
      obtain ⟨A5, c5, rfl, _, _⟩ := own_form hn5.own
      have HN := Lib.hid hn5
      have HLN : Hid ((num m.ballot).length ≤ 10) := num_len _ (by have := HBAL.out; omega)
      clear hn5 HK cl
      go_wp2_with (at_builtin; refine wpList_app rfl _ _ 28 rfl w.heap.size 5 i0 (.int .u8 0) 1 Tryd.underlying28 hi hz0 hz1 hz2 rfl _ _ _ rfl (own_fr HW.out.own HN.out.fr (fun _ _ h => h)) A5 c5 (num m.ballot).length (cb (num m.ballot)) rfl (cb_length _) (Rd.of_own HN.out.own) (cb_one _) (own_lens HN.out.own).2.2 ?q3 ?q4 (HW.out.nofr HN.out.fr).fr.size ?_)
      case q3 => have := HLE.out; have := HLN.out; unfold maxLen; omega
      case q4 => have := HLE.out; have := HLN.out; omega
      intro v6 w6 ho hg _ _
      obtain ⟨A6, c6, rfl, _, _⟩ := own_form ho
      have HX := Lib.hid (HW.out.app (d := num m.ballot) HN.out.fr ho hg)
      have HLX := Lib.hid (HL.out.app HW.out HN.out.fr hg (by decide))
      rw [← HSN.out] at HX
      have HXL : Hid (lj.length + (num m.ballot).length = (nums ([k1, k2, k3, k4, k5, m.ballot].take 6)).length) := by show _ = _; rw [HSN.out, List.length_append]
      rw [HXL.out] at HX ⊢
      clear ho hg HN HW HL
      go_wp2_with fail
      go_roundw
      case rel => exact ⟨6, A6, c6, by omega, rfl, by go_num, HX, HLX⟩
      case measure => simp [intOf]
    · obtain ⟨l0, hl0⟩ : ∃ l_, l_ = nums [k1, k2, k3, k4, k5, m.ballot] := ⟨_, rfl⟩
      have HW0 : Hid (DW w wr #[.int .i64 (k1 : Int), .int .i64 (k2 : Int), .int .i64 (k3 : Int), .int .i64 (k4 : Int), .int .i64 (k5 : Int), .int .u64 (m.ballot : Int), .string (bstr m.value), .slice m.va m.votes.length m.vc] (.slice A l0.length c) l0) := by
        show DW _ _ _ _ _
        rw [hl0]
        exact HW.out
      have hsl : (nums (List.take 6 [k1, k2, k3, k4, k5, m.ballot])).length = l0.length := by rw [hl0]; rfl
      have H60 : Hid (l0.length ≤ 60) := by show _ ≤ _; rw [hl0]; exact HNS.out
      have H0 := Lib.hid hl0
      rw [hsl]
      clear hl0 hsl HW HL HNS b1 b2 b3 b4 b5 em1 em2 em3 em4 em5
      obtain ⟨c0, c1, c2, c3, c4, c5, c6, c7⟩ := HW0.out.bm.msg8
      obtain ⟨W, cw, hcv, hrd, hfr⟩ := conv wr m.value
      have HK := Lib.hid (reftext_any W (some ⟨wr.heap.size, 0, none⟩) m.value.length cw m.value rfl hrd (fun h => by cases h) (by have := HWM.out.value; omega))
      have HFW := Lib.hid hfr
      clear hrd hfr
      go_wp2_with fail
      refine HK.out.mono ?_
      rintro e w5 ⟨v5, rfl, hn5⟩
      have HN : Hid (New wr w5 v5 (textB m.value)) := ⟨own_base hn5.own HFW.out.size, HFW.out.trans hn5.fr⟩
      obtain ⟨A5, c5', rfl, _, _⟩ := own_form hn5.own
      have htl : (num m.value.length ++ m.value).length = (textB m.value).length := rfl
      rw [htl] at HN ⊢
      clear hn5 HK hcv htl c0 c1 c2 c3 c4 c5 c6 c7 HFW
      have HBB_ : Hid (l0.length + (textB m.value).length ≤ 1000000) := by
        show _ ≤ _
        have h1 := H60.out; have h2 := HWM.out.value; have := num_len m.value.length (by omega); unfold textB; rw [List.length_append]; omega
      go_wp2_with (at_builtin; refine wpList_app rfl _ _ 28 rfl w.heap.size 5 i0 (.int .u8 0) 1 Tryd.underlying28 hi hz0 hz1 hz2 rfl _ _ _ rfl (own_fr HW0.out.own HN.out.fr (fun _ _ h => h)) A5 c5' (textB m.value).length (cb (textB m.value)) rfl (cb_length _) (Rd.of_own HN.out.own) (cb_one _) (own_lens HN.out.own).2.2 ?q3 ?q4 (HW0.out.nofr HN.out.fr).fr.size ?_)
      case q3 => have := HBB_.out; unfold maxLen; omega
      case q4 => have := HBB_.out; omega
      intro v6 w6 ho hg _ _
      obtain ⟨A6, c6, rfl, _, _⟩ := own_form ho
      have hx_ := HW0.out.app (d := textB m.value) HN.out.fr ho hg
      obtain ⟨l1, hl1⟩ : ∃ l_, l_ = l0 ++ textB m.value := ⟨_, rfl⟩
      have HXL_ : Hid (l0.length + (textB m.value).length = l1.length) := by show _ = _; rw [hl1, List.length_append]
      rw [← hl1, HXL_.out] at hx_
      rw [HXL_.out]
      have HW1 := Lib.hid hx_
      have Hl1 := Lib.hid hl1
      clear ho hg hx_ hl1 HXL_ HBB_ HN HW0 
      obtain ⟨c0, c1, c2, c3, c4, c5, c6', c7⟩ := HW1.out.bm.msg8
      have hfew : m.votes.length ≤ 64 := HWM.out.few
      have em : ((m.votes.length : Int) % 18446744073709551616) = m.votes.length := by omega
      have HK := Lib.hid (refnum_any w6 m.votes.length (by omega))
      go_wp2_with fail
      refine HK.out.mono ?_
      rintro e w7 ⟨v7, rfl, hn7⟩
      have HN := Lib.hid hn7
      obtain ⟨A7, c7', rfl, _, _⟩ := own_form hn7.own
      clear hn7 HK em c0 c1 c2 c3 c4 c5 c6' c7
      have HBB_ : Hid (l1.length + (num m.votes.length).length ≤ 1000000) := by
        show _ ≤ _
        have h1 := H60.out; have h2 := HWM.out.value; have := num_len m.value.length (by omega); have := num_len m.votes.length (by omega); rw [Hl1.out, List.length_append]; unfold textB; rw [List.length_append]; omega
      go_wp2_with (at_builtin; refine wpList_app rfl _ _ 28 rfl w.heap.size 5 i0 (.int .u8 0) 1 Tryd.underlying28 hi hz0 hz1 hz2 rfl _ _ _ rfl (own_fr HW1.out.own HN.out.fr (fun _ _ h => h)) A7 c7' (num m.votes.length).length (cb (num m.votes.length)) rfl (cb_length _) (Rd.of_own HN.out.own) (cb_one _) (own_lens HN.out.own).2.2 ?q3 ?q4 (HW1.out.nofr HN.out.fr).fr.size ?_)
      case q3 => have := HBB_.out; unfold maxLen; omega
      case q4 => have := HBB_.out; omega
      intro v6 w8 ho hg _ _
      obtain ⟨A6, c6, rfl, _, _⟩ := own_form ho
      have hx_ := HW1.out.app (d := num m.votes.length) HN.out.fr ho hg
      obtain ⟨l2, hl2⟩ : ∃ l_, l_ = l1 ++ num m.votes.length := ⟨_, rfl⟩
      have HXL_ : Hid (l1.length + (num m.votes.length).length = l2.length) := by show _ = _; rw [hl2, List.length_append]
      rw [← hl2, HXL_.out] at hx_
      rw [HXL_.out]
      have HW2 := Lib.hid hx_
      have Hl2 := Lib.hid hl2
      clear ho hg hx_ hl2 HXL_ HBB_ HN HW1 
      have HPRE : Hid (bodyB m = l2 ++ m.votes.flatMap voteB) := by
        show _ = _
        rw [HBODY.out, Hl2.out, Hl1.out, H0.out]
        simp [List.append_assoc]
      go_wp2_with fail
      obtain ⟨cs, hcs⟩ : ∃ cs : Array Value, cs = #[.int .i64 (k1 : Int), .int .i64 (k2 : Int), .int .i64 (k3 : Int), .int .i64 (k4 : Int), .int .i64 (k5 : Int), .int .u64 (m.ballot : Int), .string (bstr m.value), .slice m.va m.votes.length m.vc] := ⟨_, rfl⟩
      have HCS := Lib.hid hcs
      rw [← hcs] at HW2
      clear hcs
      have hl20 : l2 = l2 ++ (m.votes.take 0).flatMap voteB := by simp
      go_loopw [4, 7] (fun s t wr => ∃ (k : Nat) (A : Option Addr) (c : Nat) (lk : List UInt8), k ≤ m.votes.length ∧ s = .slice A lk.length c ∧ t = .int .i64 k ∧ Hid (lk = l2 ++ (m.votes.take k).flatMap voteB) ∧ Hid (DW w wr cs (.slice A lk.length c) lk)) (fun _ t _ => m.votes.length - (intOf t).toNat)
      case atStart => exact ⟨0, _, _, l2, by omega, rfl, rfl, hl20, HW2⟩
      case round =>
        clear hl20 HW2
        obtain ⟨k, A, c, lk, hk, rfl, rfl, HLK, HW⟩ := hrel
        have hbm := HW.out.bm
        rw [HCS.out] at hbm
        obtain ⟨_, _, _, _, _, _, _, c7⟩ := hbm.msg8
        clear hbm
        by_cases hlt : k < m.votes.length
        · obtain ⟨x, hx⟩ : ∃ x, m.votes[k]? = some x := ⟨_, List.getElem?_eq_getElem hlt⟩
          obtain ⟨b, o', hA, x0, x1, x2⟩ := (HM.out.votes.nofr HW.out.fr).vote hx
          have hxb := HWM.out.votes x (List.mem_of_getElem? hx)
          have hxn := HM.out.nums.2 x (List.mem_of_getElem? hx)
          unfold two64 at hxn
          obtain ⟨sn, hsn⟩ : ∃ sn : Nat, x.slot = sn := ⟨x.slot.toNat, by omega⟩
          have HSN := Lib.hid (flat_snoc voteB m.votes k x hx)
          have HXB : Hid (voteB x = num sn ++ (num x.ballot ++ textB x.value)) := by
            show _ = _
            unfold voteB
            rw [hsn]
            rfl
          have HXN : Hid (sn < 2 ^ 64 ∧ x.ballot < 2 ^ 64 ∧ x.value.length ≤ 4096) := ⟨by omega, by omega, by omega⟩
          have HB3 : Hid (lk.length ≤ 400000 ∧ (num sn).length ≤ 10 ∧ (num x.ballot).length ≤ 10 ∧ (textB x.value).length ≤ 4200) := by
            have h1 := HLEN.out
            have h2 := flat_le voteB m.votes k
            have h3 := num_len sn (by omega)
            have h4 := num_len x.ballot (by omega)
            have h5 := num_len x.value.length (by omega)
            rw [HPRE.out, List.length_append] at h1
            have h6 := congrArg List.length HLK.out
            rw [List.length_append] at h6
            refine ⟨by omega, h3, h4, ?_⟩
            unfold textB
            rw [List.length_append]
            omega
          have HVS := Lib.hid fun W (hf : Fr NoBlk w W) => (HM.out.votes.nofr hf).vote hx
          have em : ((sn : Int) % 18446744073709551616) = sn := by omega
          rw [hsn] at x0 HVS
          have HAA := Lib.hid hA
          rw [hA] at c7
          have HK := Lib.hid (refnum_any wr sn (by have := HXN.out; omega))
          clear hx hA hxb hxn hsn
          go_wp2_with fail
          refine HK.out.mono ?_
          rintro e w9 ⟨v9, rfl, hn9⟩
          have HN := Lib.hid hn9
          obtain ⟨A9, c9, rfl, _, _⟩ := own_form hn9.own
          clear hn9 HK em c7 x0 x1 x2
          have HBB_ : Hid (lk.length + (num sn).length ≤ 1000000) := by
            show _ ≤ _
            have := HB3.out; omega
          go_wp2_with (at_builtin; refine wpList_app rfl _ _ 28 rfl w.heap.size 5 i0 (.int .u8 0) 1 Tryd.underlying28 hi hz0 hz1 hz2 rfl _ _ _ rfl (own_fr HW.out.own HN.out.fr (fun _ _ h => h)) A9 c9 (num sn).length (cb (num sn)) rfl (cb_length _) (Rd.of_own HN.out.own) (cb_one _) (own_lens HN.out.own).2.2 ?q3 ?q4 (HW.out.nofr HN.out.fr).fr.size ?_)
          case q3 => have := HBB_.out; unfold maxLen; omega
          case q4 => have := HBB_.out; omega
          intro v6 wa ho hg _ _
          obtain ⟨A6, c6, rfl, _, _⟩ := own_form ho
          have hx_ := HW.out.app (d := num sn) HN.out.fr ho hg
          obtain ⟨lk1, hlk1⟩ : ∃ l_, l_ = lk ++ num sn := ⟨_, rfl⟩
          have HXL_ : Hid (lk.length + (num sn).length = lk1.length) := by show _ = _; rw [hlk1, List.length_append]
          rw [← hlk1, HXL_.out] at hx_
          rw [HXL_.out]
          have HWa := Lib.hid hx_
          have Hlk1 := Lib.hid hlk1
          clear ho hg hx_ hlk1 HXL_ HBB_ HN HW 
          have hbm := HWa.out.bm
          rw [HCS.out] at hbm
          obtain ⟨_, _, _, _, _, _, _, c7⟩ := hbm.msg8
          obtain ⟨b2, o2, hA2, x0, x1, x2⟩ := HVS.out wa HWa.out.fr
          rw [HAA.out] at hA2
          injection hA2 with hA2
          injection hA2 with hq1 hq2
          subst hq1 hq2
          rw [HAA.out] at c7
          clear hbm
          have HK := Lib.hid (refnum_any wa x.ballot (by have := HXN.out; omega))
          go_wp2_with fail
          refine HK.out.mono ?_
          rintro e wb ⟨vb, rfl, hnb⟩
          have HN := Lib.hid hnb
          obtain ⟨Ab, cb', rfl, _, _⟩ := own_form hnb.own
          clear hnb HK c7 x0 x1 x2
          have HBB_ : Hid (lk1.length + (num x.ballot).length ≤ 1000000) := by
            show _ ≤ _
            have := HB3.out; rw [Hlk1.out, List.length_append]; omega
          go_wp2_with (at_builtin; refine wpList_app rfl _ _ 28 rfl w.heap.size 5 i0 (.int .u8 0) 1 Tryd.underlying28 hi hz0 hz1 hz2 rfl _ _ _ rfl (own_fr HWa.out.own HN.out.fr (fun _ _ h => h)) Ab cb' (num x.ballot).length (cb (num x.ballot)) rfl (cb_length _) (Rd.of_own HN.out.own) (cb_one _) (own_lens HN.out.own).2.2 ?q3 ?q4 (HWa.out.nofr HN.out.fr).fr.size ?_)
          case q3 => have := HBB_.out; unfold maxLen; omega
          case q4 => have := HBB_.out; omega
          intro v6 wd ho hg _ _
          obtain ⟨A6, c6, rfl, _, _⟩ := own_form ho
          have hx_ := HWa.out.app (d := num x.ballot) HN.out.fr ho hg
          obtain ⟨lk2, hlk2⟩ : ∃ l_, l_ = lk1 ++ num x.ballot := ⟨_, rfl⟩
          have HXL_ : Hid (lk1.length + (num x.ballot).length = lk2.length) := by show _ = _; rw [hlk2, List.length_append]
          rw [← hlk2, HXL_.out] at hx_
          rw [HXL_.out]
          have HWd := Lib.hid hx_
          have Hlk2 := Lib.hid hlk2
          clear ho hg hx_ hlk2 HXL_ HBB_ HN HWa 
          have hbm := HWd.out.bm
          rw [HCS.out] at hbm
          obtain ⟨_, _, _, _, _, _, _, c7⟩ := hbm.msg8
          obtain ⟨b2, o2, hA2, x0, x1, x2⟩ := HVS.out wd HWd.out.fr
          rw [HAA.out] at hA2
          injection hA2 with hA2
          injection hA2 with hq1 hq2
          subst hq1 hq2
          rw [HAA.out] at c7
          clear hbm
          obtain ⟨W, cw, hcv, hrd, hfr⟩ := conv wd x.value
          have HK := Lib.hid (reftext_any W (some ⟨wd.heap.size, 0, none⟩) x.value.length cw x.value rfl hrd (fun h => by cases h) (by have := HXN.out; omega))
          have HFW := Lib.hid hfr
          clear hrd hfr
          go_wp2_with fail
          refine HK.out.mono ?_
          rintro e we ⟨ve, rfl, hne⟩
          have HN : Hid (New wd we ve (textB x.value)) := ⟨own_base hne.own HFW.out.size, HFW.out.trans hne.fr⟩
          obtain ⟨Ae, ce, rfl, _, _⟩ := own_form hne.own
          have htl : (num x.value.length ++ x.value).length = (textB x.value).length := rfl
          rw [htl] at HN ⊢
          clear hne HK hcv htl c7 x0 x1 x2 HFW
          have HBB_ : Hid (lk2.length + (textB x.value).length ≤ 1000000) := by
            show _ ≤ _
            have := HB3.out; rw [Hlk2.out, List.length_append, Hlk1.out, List.length_append]; omega
          go_wp2_with (at_builtin; refine wpList_app rfl _ _ 28 rfl w.heap.size 5 i0 (.int .u8 0) 1 Tryd.underlying28 hi hz0 hz1 hz2 rfl _ _ _ rfl (own_fr HWd.out.own HN.out.fr (fun _ _ h => h)) Ae ce (textB x.value).length (cb (textB x.value)) rfl (cb_length _) (Rd.of_own HN.out.own) (cb_one _) (own_lens HN.out.own).2.2 ?q3 ?q4 (HWd.out.nofr HN.out.fr).fr.size ?_)
          case q3 => have := HBB_.out; unfold maxLen; omega
          case q4 => have := HBB_.out; omega
          intro v6 wf ho hg _ _
          obtain ⟨A6, c6, rfl, _, _⟩ := own_form ho
          have hx_ := HWd.out.app (d := textB x.value) HN.out.fr ho hg
          obtain ⟨lk3, hlk3⟩ : ∃ l_, l_ = lk2 ++ textB x.value := ⟨_, rfl⟩
          have HXL_ : Hid (lk2.length + (textB x.value).length = lk3.length) := by show _ = _; rw [hlk3, List.length_append]
          rw [← hlk3, HXL_.out] at hx_
          rw [HXL_.out]
          have HWf := Lib.hid hx_
          have Hlk3 := Lib.hid hlk3
          clear ho hg hx_ hlk3 HXL_ HBB_ HN HWd 
          have HLX : Hid (lk3 = l2 ++ (m.votes.take (k + 1)).flatMap voteB) := by
            show _ = _
            rw [Hlk3.out, Hlk2.out, Hlk1.out, HLK.out, HSN.out, HXB.out]
            simp [List.append_assoc]
          clear Hlk1 Hlk2 Hlk3 HLK HSN HXB HVS HAA
          go_wp2_with fail
          go_roundw
          case rel => exact ⟨k + 1, A6, c6, lk3, by omega, rfl, by go_num, HLX, HWf⟩
          case measure => simp [intOf]; omega
        · have HLB : Hid (lk = bodyB m) := by
            show _ = _
            rw [HLK.out, List.take_of_length_le (by omega), ← HPRE.out]
          have HLL : Hid (lk.length ≤ 300000) := by show _ ≤ _; rw [HLB.out]; exact HLEN.out
          have HSU := Lib.hid (dsum_any wr A lk.length c lk rfl (Rd.of_own HW.out.own) (by have := HLL.out; omega))
          go_wp2_with fail
          refine HSU.out.mono ?_
          clear c7
          rintro e w9 ⟨rfl, hf9⟩
          have hsn0 : ((Crc.crc lk).toNat : Nat) = sumN lk := rfl
          obtain ⟨sn, hsn⟩ : ∃ sn, sn = sumN lk := ⟨_, rfl⟩
          rw [hsn0, ← hsn]
          have hsl : sn < 4294967296 := by rw [hsn]; exact sumN_lt _
          have em : ((sn : Int) % 18446744073709551616) = sn := by omega
          have HMB : Hid (msgB m = lk ++ num sn) := by
            show _ = _
            rw [hsn, HLB.out]
            rfl
          have HK := Lib.hid (refnum_any w9 sn (by omega))
          have HF9 := Lib.hid hf9
          have HSL : Hid ((num sn).length ≤ 10) := num_len sn (by omega)
          clear hsn hsn0 hsl hf9 HSU
          go_wp2_with fail
          refine HK.out.mono ?_
          rintro e wa ⟨va, rfl, hna⟩
          have HN : Hid (New wr wa va (num sn)) := ⟨own_base hna.own HF9.out.size, HF9.out.trans hna.fr⟩
          obtain ⟨Aa, ca, rfl, _, _⟩ := own_form hna.own
          clear hna HK em HF9
          have HBB_ : Hid (lk.length + (num sn).length ≤ 1000000) := by
            show _ ≤ _
            have := HLL.out; have := HSL.out; omega
          go_wp2_with (at_builtin; refine wpList_app rfl _ _ 28 rfl w.heap.size 5 i0 (.int .u8 0) 1 Tryd.underlying28 hi hz0 hz1 hz2 rfl _ _ _ rfl (own_fr HW.out.own HN.out.fr (fun _ _ h => h)) Aa ca (num sn).length (cb (num sn)) rfl (cb_length _) (Rd.of_own HN.out.own) (cb_one _) (own_lens HN.out.own).2.2 ?q3 ?q4 (HW.out.nofr HN.out.fr).fr.size ?_)
          case q3 => have := HBB_.out; unfold maxLen; omega
          case q4 => have := HBB_.out; omega
          intro v6 wz ho hg _ _
          obtain ⟨A6, c6, rfl, _, _⟩ := own_form ho
          have hx_ := HW.out.app (d := num sn) HN.out.fr ho hg
          obtain ⟨lz, hlz⟩ : ∃ l_, l_ = lk ++ num sn := ⟨_, rfl⟩
          have HXL_ : Hid (lk.length + (num sn).length = lz.length) := by show _ = _; rw [hlz, List.length_append]
          rw [← hlz, HXL_.out] at hx_
          rw [HXL_.out]
          have HWz := Lib.hid hx_
          have Hlz := Lib.hid hlz
          clear ho hg hx_ hlz HXL_ HBB_ HN HW 
          have HFIN : Hid (lz = msgB m) := by show _ = _; rw [Hlz.out, HMB.out]
          go_wp2_with fail
          go_ret2
          rw [HP.out, HR.out, if_pos rfl, ← HFIN.out]
          exact ⟨_, rfl, HWz.out.own, HWz.out.fr⟩
end Go.Proofs.YtdpjmkgjjhcgeaaDoor
