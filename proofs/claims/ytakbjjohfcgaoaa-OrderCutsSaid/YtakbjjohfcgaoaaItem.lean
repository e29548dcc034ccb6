/- Items: the program's rightItem and WriteItem, the document's SameItem. Conditions: the order is small. -/
import Derived.Test.YtakbjjohfcgaoaaDec
namespace Go.Proofs.Ytakbjjohfcgaoaa
open Go.RowKit

structure It where
  kind : Int
  idx : Int
  o : Od
def ita (x : It) : Array Value := #[.int .i64 x.kind, .int .i64 x.idx, .int .i64 x.o.node, .int .u64 (x.o.epoch : Int), .int .u64 (x.o.seq : Int), .int .i64 x.o.tr, .int .i64 x.o.t.kind, .slice x.o.t.ra x.o.t.reads.length x.o.t.rc, .slice x.o.t.wa x.o.t.writes.length x.o.t.wc, .slice x.o.t.oa x.o.t.ops.length x.o.t.oc, .int .i64 x.o.t.to, .slice x.o.ma x.o.marks.length x.o.mc]
def itv (x : It) : Value := .agg (ita x)
def itemR (x : It) : Bool := orderR x.o 3 && (if x.kind = 1 then decide (x.idx = 0) else if x.kind = 2 then decide (0 ≤ x.idx) && decide (x.idx < 64) else false)
def itemB (x : It) : List UInt8 := nums [x.kind.toNat, x.idx.toNat] ++ orderB x.o
def itemSame (a b : It) : Bool := decide (a.kind = b.kind) && (decide (a.idx = b.idx) && orderSame a.o b.o)
theorem itemR_at {x : It} (h : itemR x = true) : orderR x.o 3 = true ∧ 1 ≤ x.kind ∧ x.kind ≤ 2 ∧ 0 ≤ x.idx ∧ x.idx < 64 := by
  unfold itemR at h
  rw [Bool.and_eq_true] at h
  refine ⟨h.1, ?_⟩
  have h2 := h.2
  split at h2
  · rw [decide_eq_true_eq] at h2; omega
  · split at h2
    · simp only [Bool.and_eq_true, decide_eq_true_eq] at h2; omega
    · cases h2
def ItN (x : It) : Prop := Bnd x.o ∧ (x.o.epoch < two64 ∧ x.o.seq < two64 ∧ ∀ m ∈ x.o.marks, m.count < two64)
theorem itemB_iff {a b : It} (ha : itemR a = true) (hb : itemR b = true) (na : ItN a) (nb : ItN b) : (itemB a == itemB b) = itemSame a b := by
  obtain ⟨a1, a2, a3, a4, a5⟩ := itemR_at ha
  obtain ⟨b1, b2, b3, b4, b5⟩ := itemR_at hb
  rw [Bool.eq_iff_iff, beq_iff_eq]
  unfold itemSame
  simp only [Bool.and_eq_true, decide_eq_true_eq, orderSame_iff]
  constructor
  · intro h
    unfold itemB nums at h
    simp only [List.flatMap_cons, List.flatMap_nil, List.append_nil, List.append_assoc] at h
    have h1 := rN_app a.kind.toNat (by omega) (num a.idx.toNat ++ orderB a.o)
    rw [h, rN_app b.kind.toNat (by omega)] at h1
    injection h1 with h1 h2
    have h3 := rN_app a.idx.toNat (by omega) (orderB a.o)
    rw [← h2, rN_app b.idx.toNat (by omega)] at h3
    injection h3 with h3 h4
    have h5 := orderB_pre a1 b1 na.1 nb.1 na.2 nb.2 (r := []) (s := []) (by rw [h4])
    exact ⟨by omega, by omega, h5.1⟩
  · rintro ⟨h1, h2, h3⟩
    unfold itemB
    rw [h1, h2, orderB_alike h3]
theorem Bk.item {w : World} {g : Nat} {T : TypeId} {x : It} (h : Bk w g T (ita x)) :
    w.cell? ⟨g, 0, none⟩ = some (.int .i64 x.kind) ∧ w.cell? ⟨g, 1, none⟩ = some (.int .i64 x.idx) ∧ w.cell? ⟨g, 2, none⟩ = some (.int .i64 x.o.node) ∧ w.cell? ⟨g, 3, none⟩ = some (.int .u64 (x.o.epoch : Int)) ∧ w.cell? ⟨g, 4, none⟩ = some (.int .u64 (x.o.seq : Int)) ∧ w.cell? ⟨g, 5, none⟩ = some (.int .i64 x.o.tr) ∧ w.cell? ⟨g, 6, none⟩ = some (.int .i64 x.o.t.kind) ∧ w.cell? ⟨g, 7, none⟩ = some (.slice x.o.t.ra x.o.t.reads.length x.o.t.rc) ∧ w.cell? ⟨g, 8, none⟩ = some (.slice x.o.t.wa x.o.t.writes.length x.o.t.wc) ∧ w.cell? ⟨g, 9, none⟩ = some (.slice x.o.t.oa x.o.t.ops.length x.o.t.oc) ∧ w.cell? ⟨g, 10, none⟩ = some (.int .i64 x.o.t.to) ∧ w.cell? ⟨g, 11, none⟩ = some (.slice x.o.ma x.o.marks.length x.o.mc) :=
  ⟨h.cell 0, h.cell 1, h.cell 2, h.cell 3, h.cell 4, h.cell 5, h.cell 6, h.cell 7, h.cell 8, h.cell 9, h.cell 10, h.cell 11⟩

set_option maxRecDepth 100000 in
set_option maxHeartbeats 4000000 in
theorem rightItem_any (w : World) (x : It) (ho : OdIn w x.o) (hr : x.o.t.reads.length ≤ 1000) (hw : x.o.t.writes.length ≤ 1000) :
    Calls Try.prog 36 #[itv x] w fun e w' => e = .returned (.bool (itemR x)) ∧ Fr NoBlk w w' := by
  have HF : Hid (Fr NoBlk w (w.alloc (.cells (ita x) 51))) := (Fr.refl _ _).alloc _
  have HB := Lib.hid (Bk.new w 51 (ita x))
  have HK := Lib.hid (ocheck_any _ x.o 3 (ho.nofr HF.out) hr hw)
  have HD : Hid (itemR x = (orderR x.o 3 && (if x.kind = 1 then decide (x.idx = 0) else if x.kind = 2 then decide (0 ≤ x.idx) && decide (x.idx < 64) else false))) := rfl
  clear ho hr hw
  unfold ita at HF HK
  unfold odv oda at HK
  unfold itv ita
  generalize itemR x = res at *
  generalize orderR x.o 3 = b1 at *
  go_enter Try.func36, Try.ntmps36
  go_wp2_with fail
  refine HK.out.mono ?_
  rintro e w1 ⟨rfl, hf1⟩
  have HF1 := Lib.hid (HF.out.trans hf1)
  have HB1 := Lib.hid (HB.out.fr hf1 (fun h => h))
  clear hf1 HK HF HB
  cases b1
  · have e0 : codeR false = 1 := rfl
    rw [e0]
    go_wp2_with fail
    go_ret
    exact ⟨ret_bool (by rw [HD.out]; rfl), HF1.out⟩
  have e0 : codeR true = 0 := rfl
  rw [e0]
  have HD2 := Lib.hid (HD.out.trans (Bool.true_and _))
  have c0 : w1.cell? ⟨w.heap.size, 0, none⟩ = some (.int .i64 x.kind) := HB1.out.cell 0
  have c1 : w1.cell? ⟨w.heap.size, 1, none⟩ = some (.int .i64 x.idx) := HB1.out.cell 1
  clear HD HB1
  generalize x.kind = kind at *
  generalize x.idx = idx at *
  by_cases h1 : kind = 1
  · subst h1
    have HD3 := Lib.hid (HD2.out.trans (if_pos rfl))
    by_cases h2 : idx = 0
    · have g1 : ((idx : Int) == 0) = true := beq_iff_eq.2 h2
      have HQ := Lib.hid (HD3.out.trans (decide_eq_true h2))
      clear h2
      go_wp2_with fail
      go_ret
      exact ⟨ret_bool HQ.out.symm, HF1.out⟩
    · have g1 : ((idx : Int) == 0) = false := beq_eq_false_iff_ne.2 h2
      have HQ := Lib.hid (HD3.out.trans (decide_eq_false h2))
      clear h2
      go_wp2_with fail
      go_ret
      exact ⟨ret_bool HQ.out.symm, HF1.out⟩
  · have g0 : ((kind : Int) == 1) = false := beq_eq_false_iff_ne.2 h1
    have HD3 := Lib.hid (HD2.out.trans (if_neg h1))
    clear h1
    by_cases h2 : kind = 2
    · subst h2
      have HD4 := Lib.hid (HD3.out.trans (if_pos rfl))
      by_cases h3 : 0 ≤ idx
      · by_cases h4 : idx < 64
        · have HQ := Lib.hid (HD4.out.trans (by rw [decide_eq_true h3, decide_eq_true h4]; rfl : _ = true))
          go_wp2_with fail
          go_ret
          exact ⟨ret_bool HQ.out.symm, HF1.out⟩
        · have HQ := Lib.hid (HD4.out.trans (by rw [decide_eq_false h4, Bool.and_false] : _ = false))
          have h4d := decide_eq_false h4
          clear h4
          go_wp2_with fail
          go_ret
          exact ⟨ret_bool HQ.out.symm, HF1.out⟩
      · have HQ := Lib.hid (HD4.out.trans (by rw [decide_eq_false h3, Bool.false_and] : _ = false))
        have h3d := decide_eq_false h3
        go_wp2_with fail
        go_ret
        exact ⟨ret_bool HQ.out.symm, HF1.out⟩
    · have g2 : ((kind : Int) == 2) = false := beq_eq_false_iff_ne.2 h2
      have HQ := Lib.hid (HD3.out.trans (if_neg h2))
      clear h2
      go_wp2_with fail
      go_ret
      exact ⟨ret_bool HQ.out.symm, HF1.out⟩

def WriteItemPost (w : World) (x : It) (e : Ending) (w' : World) : Prop :=
  if itemR x = true then ∃ v', e = .returned (.tuple #[v', .int .i64 0]) ∧ New w w' v' (itemB x) else e = .returned (.tuple #[.slice none 0 0, .int .i64 1]) ∧ Fr NoBlk w w'

set_option maxRecDepth 100000 in
set_option maxHeartbeats 4000000 in
theorem writeItem_any (w : World) (x : It) (ho : OdIn w x.o) (hrl : x.o.t.reads.length ≤ 1000) (hwl : x.o.t.writes.length ≤ 1000) (hn : Bnd x.o) : Calls Try.prog 19 #[itv x] w (WriteItemPost w x) := by
  obtain ⟨w1, hw1⟩ : ∃ w1, w1 = w.alloc (.cells (ita x) 51) := ⟨_, rfl⟩
  have HF : Hid (Fr NoBlk w w1) := by
    show Fr _ _ _
    rw [hw1]
    exact (Fr.refl _ _).alloc _
  have HB : Hid (Bk w1 w.heap.size 51 (ita x)) := by
    show Bk _ _ _ _
    rw [hw1]
    exact Bk.new w _ _
  have HK1 := Lib.hid (rightItem_any w1 x (ho.nofr HF.out) hrl hwl)
  have HKW := Lib.hid fun (hr : itemR x = true) W base g v l (h0 : Fr NoBlk w W) hg hb0 hp hb => worder_any w W base g x.o v l ho h0 hg hb0 hp hb (orderR_wod (itemR_at hr).1 hn) (orderR_small (itemR_at hr).1)
  have HLB := Lib.hid fun hr : itemR x = true => orderB_len (orderR_wod (itemR_at hr).1 hn) (orderR_small (itemR_at hr).1) ho.nums
  have HWP : Hid (∀ e w', WriteItemPost w x e w' = if itemR x = true then ∃ v', e = .returned (.tuple #[v', .int .i64 0]) ∧ New w w' v' (itemB x) else e = .returned (.tuple #[.slice none 0 0, .int .i64 1]) ∧ Fr NoBlk w w') := fun _ _ => rfl
  have HRA := Lib.hid fun hr : itemR x = true => itemR_at hr
  have hib : itemB x = nums [x.kind.toNat, x.idx.toNat] ++ orderB x.o := rfl
  have HIB := Lib.hid hib
  obtain ⟨c0, c1, c2, c3, c4, c5, c6, c7, c8, c9, c10, c11⟩ := HB.out.item
  clear ho hn hrl hwl hib
  unfold itv ita at HK1
  unfold odv oda at HKW
  unfold ita at hw1
  unfold itv ita
  generalize itemR x = rr at *
  go_enter Try.func19, Try.ntmps19
  go_wp2_with fail
  rw [← hw1]
  clear hw1 c0 c1 c2 c3 c4 c5 c6 c7 c8 c9 c10 c11
  refine HK1.out.mono ?_
  rintro e w2 ⟨rfl, hf2⟩
  have HF2 := Lib.hid (HF.out.trans hf2)
  have HB2 := Lib.hid (HB.out.fr hf2 (fun h => h))
  clear hf2 HK1 HF HB
  cases rr
  · go_wp2_with fail
    go_ret2
    rw [HWP.out]
    exact ⟨rfl, HF2.out⟩
  · obtain ⟨_, r1, r2, r3, r4⟩ := HRA.out rfl
    obtain ⟨kn, hkn⟩ : ∃ kn : Nat, x.kind = kn := ⟨x.kind.toNat, by omega⟩
    obtain ⟨xn, hxn⟩ : ∃ xn : Nat, x.idx = xn := ⟨x.idx.toNat, by omega⟩
    have hk2 : kn ≤ 2 := by omega
    have hx2 : xn < 64 := by omega
    obtain ⟨w3, hw3⟩ : ∃ w3, w3 = w2.alloc (.cells #[.slice none 0 0] 71) := ⟨_, rfl⟩
    have HP3 : Hid (Pen w3 w2.heap.size w2.heap.size (.slice none 0 0) []) := by
      show Pen _ _ _ _ _
      rw [hw3]
      exact ⟨Bk.new _ _ _, World.ownsRow_nil _ _ _ _⟩
    have HF3 : Hid (Fr NoBlk w2 w3) := by
      show Fr _ _ _
      rw [hw3]
      exact (Fr.refl _ _).alloc _
    have HK2 := wlit_any w3 w2.heap.size w2.heap.size [kn, xn] (.slice none 0 0) [] HP3.out HF3.out.size (fun y hy => by
      simp only [List.mem_cons, List.not_mem_nil, or_false] at hy
      rcases hy with rfl | rfl <;> omega) (by show 2 ≤ 1000; omega) (by
      have := nums_len [kn, xn] (fun y hy => by
        simp only [List.mem_cons, List.not_mem_nil, or_false] at hy
        rcases hy with rfl | rfl <;> omega)
      rw [List.nil_append]
      simp only [List.length_cons, List.length_nil] at this
      omega)
    unfold uc at HK2
    simp only [List.map_cons, List.map_nil, List.length_cons, List.length_nil, List.nil_append] at HK2
    have HK2 := Lib.hid HK2
    have HNL : Hid ((nums [kn, xn]).length ≤ 20) := by
      show _ ≤ _
      have := nums_len [kn, xn] (fun y hy => by
        simp only [List.mem_cons, List.not_mem_nil, or_false] at hy
        rcases hy with rfl | rfl <;> omega)
      simp only [List.length_cons, List.length_nil] at this
      omega
    have HIB2 : Hid (itemB x = nums [kn, xn] ++ orderB x.o) := by
      show _ = _
      rw [HIB.out, hkn, hxn]
      rfl
    have e1 : ((kn : Int) % 18446744073709551616) = kn := by omega
    have e2 : ((xn : Int) % 18446744073709551616) = xn := by omega
    have HKN := Lib.hid hkn
    have HXN := Lib.hid hxn
    clear r1 r2 r3 r4 hk2 hx2 hkn hxn HRA HIB
    go_upto_region 4 with fail
    rw [← hw3]
    clear hw3
    have HBX := Lib.hid (HB2.out.fr HF3.out (fun h => h))
    have c0 : w3.cell? ⟨w.heap.size, 0, none⟩ = some (.int .i64 (kn : Int)) := by rw [← HKN.out]; exact HBX.out.cell 0
    have c1 : w3.cell? ⟨w.heap.size, 1, none⟩ = some (.int .i64 (xn : Int)) := by rw [← HXN.out]; exact HBX.out.cell 1
    go_wp2_with fail
    refine HK2.out.mono ?_
    rintro e w4 ⟨rfl, v4, hw4⟩
    have HF4 : Hid (Fr NoBlk w w4) := by
      show Fr _ _ _
      exact Wro.old (HF2.out.trans HF3.out) HF2.out.size HF2.out.size HP3.out hw4
    have HBY := Lib.hid (hw4.keep HP3.out HBX.out (by decide) (by decide))
    have HP4 := Lib.hid hw4.pen
    have HW4 : Hid (w2.heap.size ≤ w4.heap.size) := Nat.le_trans HF3.out.size hw4.fr.size
    have HK3 := Lib.hid (HKW.out trivial w4 w2.heap.size w2.heap.size v4 (nums [kn, xn]) HF4.out HF2.out.size HF2.out.size HP4.out HW4.out (by have := HLB.out trivial; have := HNL.out; rw [List.length_append]; omega))
    clear hw4 HK2 c0 c1 e1 e2 HKW
    obtain ⟨_, _, c2, c3, c4, c5, c6, c7, c8, c9, c10, c11⟩ := HBY.out.item
    go_wp2_with fail
    refine HK3.out.mono ?_
    rintro e w5 ⟨rfl, v5, hw5⟩
    have HF5 : Hid (Fr NoBlk w w5) := by
      show Fr _ _ _
      exact Wro.old HF4.out HF2.out.size HF2.out.size HP4.out hw5
    have HD := Lib.hid (data_any w5 w2.heap.size w2.heap.size v5 (nums [kn, xn] ++ orderB x.o) hw5.pen (by have := HLB.out trivial; have := HNL.out; rw [List.length_append]; omega))
    clear hw5 HK3 c2 c3 c4 c5 c6 c7 c8 c9 c10 c11
    go_wp2_with fail
    refine HD.out.mono ?_
    rintro e w6 ⟨v6, rfl, hn6⟩
    have HN : Hid (New w w6 v6 (itemB x)) := by
      show New _ _ _ _
      rw [HIB2.out]
      exact ⟨own_base hn6.own HF5.out.size, HF5.out.trans hn6.fr⟩
    clear hn6 HD
    go_wp2_with fail
    go_ret2
    rw [HWP.out]
    exact ⟨_, rfl, HN.out⟩

set_option maxRecDepth 100000 in
set_option maxHeartbeats 4000000 in
theorem sameItem_any (w : World) (a b : It) (ha : OdIn w a.o) (hb : OdIn w b.o) (hs : OSmall a.o) (hs2 : OSmall b.o) :
    Calls Try.prog 20 #[itv a, itv b] w fun e w' => e = .returned (.bool (itemSame a b)) ∧ Fr NoBlk w w' := by
  have HF : Hid (Fr NoBlk w ((w.alloc (.cells (ita a) 51)).alloc (.cells (ita b) 51))) := ((Fr.refl _ _).alloc _).alloc _
  have HK := Lib.hid (osame_any _ a.o b.o (ha.nofr HF.out) (hb.nofr HF.out) hs hs2)
  have HD : Hid (itemSame a b = (decide (a.kind = b.kind) && (decide (a.idx = b.idx) && orderSame a.o b.o))) := rfl
  clear ha hb hs hs2
  unfold ita at HF HK
  unfold odv oda at HK
  unfold itv ita
  generalize itemSame a b = res at *
  generalize orderSame a.o b.o = b1 at *
  generalize a.kind = ak at *
  generalize b.kind = bk at *
  generalize a.idx = ai at *
  generalize b.idx = bi at *
  by_cases h1 : ak = bk
  · have g1 : ((ak : Int) == bk) = true := beq_iff_eq.2 h1
    have HD2 := Lib.hid (HD.out.trans (by rw [decide_eq_true h1, Bool.true_and]))
    clear h1
    by_cases h2 : ai = bi
    · have g2 : ((ai : Int) == bi) = true := beq_iff_eq.2 h2
      have HD3 := Lib.hid (HD2.out.trans (by rw [decide_eq_true h2, Bool.true_and]))
      clear h2
      go_enter Try.func20, Try.ntmps20
      go_wp2_with fail
      refine HK.out.mono ?_
      rintro e w1 ⟨rfl, hf1⟩
      have HF1 := Lib.hid (HF.out.trans hf1)
      clear hf1 HK
      go_wp2_with fail
      go_ret
      exact ⟨ret_bool HD3.out.symm, HF1.out⟩
    · have g2 : ((ai : Int) == bi) = false := beq_eq_false_iff_ne.2 h2
      have HD3 := Lib.hid (HD2.out.trans (by rw [decide_eq_false h2, Bool.false_and]))
      clear h2 HK
      go_enter Try.func20, Try.ntmps20
      go_wp2_with fail
      go_ret
      exact ⟨ret_bool HD3.out.symm, HF.out⟩
  · have g1 : ((ak : Int) == bk) = false := beq_eq_false_iff_ne.2 h1
    have HD2 := Lib.hid (HD.out.trans (by rw [decide_eq_false h1, Bool.false_and]))
    clear h1 HK
    go_enter Try.func20, Try.ntmps20
    go_wp2_with fail
    go_ret
    exact ⟨ret_bool HD2.out.symm, HF.out⟩
end Go.Proofs.Ytakbjjohfcgaoaa
