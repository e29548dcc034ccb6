/- The document's Same of two orders. Conditions: the orders are small. -/
import Derived.Test.YtdgjjkmgdjiliaaSame2
import Derived.Test.YtdgjjkmgdjiliaaOrd
import Derived.Laws.StructEq
namespace Go.Proofs.Ytdgjjkmgdjiliaa
open Go.RowKit

def tagSame (a b : Od) : Bool := decide (a.node = b.node) && (decide (a.epoch = b.epoch) && (decide (a.seq = b.seq) && decide (a.tr = b.tr)))
def tagv (o : Od) : Value := .agg #[.int .i64 o.node, .int .u64 (o.epoch : Int), .int .u64 (o.seq : Int), .int .i64 o.tr]
def markSame (x y : Mk) : Bool := (x.key == y.key) && (decide (x.home = y.home) && decide (x.count = y.count))
theorem cast_beq (a b : Nat) : ((a : Int) == (b : Int)) = decide (a = b) := by
  rw [Bool.eq_iff_iff, beq_iff_eq, decide_eq_true_eq]; omega
theorem int_beq (a b : Int) : (a == b) = decide (a = b) := by
  rw [Bool.eq_iff_iff, beq_iff_eq, decide_eq_true_eq]
theorem neqTag (a b : Od) (w : World) : (binOp .neq 31 (tagv a) (tagv b)).run Try.prog w = .ok (.bool (!tagSame a b)) w := by
  have u1 := Try.underlying3
  have a1 := Try.isAgg3
  have z1 := Try.sizeOf3
  have u2 := Try.underlying27
  have a2 := Try.isAgg27
  have z2 := Try.sizeOf27
  have a3 := Try.isAgg29
  have z3 := Try.sizeOf29
  have hS : Try.prog.underlying 31 = some (.struct (Try.prog.fieldsOf 31)) := by kernel_rfl
  have hp : Try.prog.stoodInHeld 31 = false := by kernel_rfl
  have hS2 : Try.prog.underlying 29 = some (.struct (Try.prog.fieldsOf 29)) := by kernel_rfl
  have hp2 : Try.prog.stoodInHeld 29 = false := by kernel_rfl
  have hI : ∀ w, (Op.equalIn 9999 29 (.agg #[.int .i64 a.node, .int .u64 (a.epoch : Int), .int .u64 (a.seq : Int)]) (.agg #[.int .i64 b.node, .int .u64 (b.epoch : Int), .int .u64 (b.seq : Int)])).run Try.prog w = .ok (decide (a.node = b.node) && (decide (a.epoch = b.epoch) && decide (a.seq = b.seq))) w := fun w => by
    rw [show (9999 : Nat) = 9998 + 1 from rfl, run_equalIn_agg w 9998 29 _ _ hS2 hp2]
    simp only [Program.fieldsOf, Try.underlying29]
    go_simp
    by_cases h1 : a.node = b.node <;> by_cases h2 : a.epoch = b.epoch <;> by_cases h3 : a.seq = b.seq <;> first | (simp [h1, h2, h3]; done) | (simp [h1, h2, h3]; omega) | (simp [h1, h2, h3]; intros; omega)
  unfold tagv tagSame
  rw [run_neq_struct, show (10000 : Nat) = 9999 + 1 from rfl, run_equalIn_agg w 9999 31 _ _ hS hp]
  simp only [Program.fieldsOf, Try.underlying31]
  go_simp
  by_cases h1 : a.node = b.node <;> by_cases h2 : a.epoch = b.epoch <;> by_cases h3 : a.seq = b.seq <;> by_cases h4 : a.tr = b.tr <;> first | (simp [h1, h2, h3, h4]; done) | (simp [h1, h2, h3, h4]; omega)
theorem neqMark (x y : Mk) (w : World) : (binOp .neq 63 (mkv x) (mkv y)).run Try.prog w = .ok (.bool (!markSame x y)) w := by
  have u1 := Try.underlying3
  have a1 := Try.isAgg3
  have z1 := Try.sizeOf3
  have u2 := Try.underlying27
  have a2 := Try.isAgg27
  have z2 := Try.sizeOf27
  have u3 := Try.underlying9
  have a3 := Try.isAgg9
  have z3 := Try.sizeOf9
  have hS : Try.prog.underlying 63 = some (.struct (Try.prog.fieldsOf 63)) := by kernel_rfl
  have hp : Try.prog.stoodInHeld 63 = false := by kernel_rfl
  have e1 := bstr_toList x.key
  have e2 := bstr_toList y.key
  unfold mkv markSame st
  rw [run_neq_struct, show (10000 : Nat) = 9999 + 1 from rfl, run_equalIn_agg w 9999 63 _ _ hS hp]
  simp only [Program.fieldsOf, Try.underlying63]
  go_simp
  by_cases h1 : x.key = y.key <;> by_cases h2 : x.home = y.home <;> by_cases h3 : x.count = y.count <;> first | (simp [h1, h2, h3]; done) | (simp [h1, h2, h3]; omega) | (simp [h1, h2, h3]; intros; omega)

/-- two lists of marks are one. -/
def marksSame (xs ys : List Mk) : Bool := decide (xs.length = ys.length) && (xs.zip ys).all fun p => markSame p.1 p.2
theorem marksSame_len {xs ys : List Mk} (h : xs.length ≠ ys.length) : marksSame xs ys = false := by
  unfold marksSame
  rw [decide_eq_false h]; rfl
theorem marksSame_no {xs ys : List Mk} {j : Nat} {x y : Mk} (hx : xs[j]? = some x) (hy : ys[j]? = some y) (h : markSame x y = false) : marksSame xs ys = false := by
  unfold marksSame
  have : (xs.zip ys).all (fun p => markSame p.1 p.2) = false := by
    rw [List.all_eq_false]
    refine ⟨(x, y), List.mem_of_getElem? (i := j) ?_, by simp [h]⟩
    rw [List.getElem?_zip_eq_some]
    exact ⟨hx, hy⟩
  rw [this, Bool.and_false]
theorem marksSame_yes {xs ys : List Mk} (hl : xs.length = ys.length) (h : ∀ (j : Nat) (x y : Mk), xs[j]? = some x → ys[j]? = some y → markSame x y = true) : marksSame xs ys = true := by
  unfold marksSame
  rw [decide_eq_true hl, Bool.true_and, List.all_eq_true]
  rintro ⟨x, y⟩ hxy
  obtain ⟨j, hj, e⟩ := List.getElem_of_mem hxy
  have h2 : (xs.zip ys)[j]? = some (x, y) := by rw [List.getElem?_eq_getElem hj, e]
  rw [List.getElem?_zip_eq_some] at h2
  exact h j x y h2.1 h2.2
theorem markSame_iff (x y : Mk) : markSame x y = true ↔ x = y := by
  unfold markSame
  simp only [Bool.and_eq_true, decide_eq_true_eq, beq_iff_eq]
  constructor
  · rintro ⟨h1, h2, h3⟩
    cases x; cases y
    simp only at h1 h2 h3
    subst h1 h2 h3
    rfl
  · rintro rfl
    exact ⟨rfl, rfl, rfl⟩
theorem marksSame_iff (xs ys : List Mk) : marksSame xs ys = true ↔ xs = ys := by
  constructor
  · intro h
    unfold marksSame at h
    rw [Bool.and_eq_true, decide_eq_true_eq, List.all_eq_true] at h
    refine List.ext_getElem? fun j => ?_
    by_cases hj : j < xs.length
    · rw [List.getElem?_eq_getElem hj, List.getElem?_eq_getElem (h.1 ▸ hj)]
      have := h.2 (xs[j], ys[j]'(h.1 ▸ hj)) (List.mem_of_getElem? (i := j) (by rw [List.getElem?_zip_eq_some]; exact ⟨List.getElem?_eq_getElem hj, List.getElem?_eq_getElem _⟩))
      exact congrArg some ((markSame_iff _ _).1 this)
    · rw [List.getElem?_eq_none (by omega), List.getElem?_eq_none (by have := h.1; omega)]
  · rintro rfl
    exact marksSame_yes rfl fun j x y hx hy => by
      rw [hx] at hy
      injection hy with hy
      subst hy
      exact (markSame_iff x x).2 rfl

def orderSame (a b : Od) : Bool := tagSame a b && (txSame a.t b.t && marksSame a.marks b.marks)

set_option maxRecDepth 100000 in
set_option maxHeartbeats 8000000 in
theorem osame_any (w : World) (a b : Od) (ha : OdIn w a) (hb : OdIn w b) (hs : OSmall a) (hs2 : OSmall b) :
    Calls Try.prog 34 #[odv a, odv b] w fun e w' => e = .returned (.bool (orderSame a b)) ∧ Fr NoBlk w w' := by
  obtain ⟨w1, hw1⟩ : ∃ w1, w1 = (w.alloc (.cells (oda a) 38)).alloc (.cells (oda b) 38) := ⟨_, rfl⟩
  have HF : Hid (Fr NoBlk w w1) := by
    show Fr _ _ _
    rw [hw1]
    exact ((Fr.refl _ _).alloc _).alloc _
  have HB : Hid (Bk w1 w.heap.size 38 (oda a)) := by
    show Bk _ _ _ _
    rw [hw1]
    exact (Bk.new w _ _).alloc _
  have HB2 : Hid (Bk w1 (w.heap.size + 1) 38 (oda b)) := by
    show Bk _ _ _ _
    rw [hw1]
    exact Bk.new2 w _ _ _
  have K1 := Lib.hid (same_any w1 a.t b.t (ha.txn.nofr HF.out) (hb.txn.nofr HF.out) hs.t hs2.t)
  have HA := Lib.hid ha
  have HBB := Lib.hid hb
  have hma := hs.m
  have hmb := hs2.m
  have HD : Hid (orderSame a b = (tagSame a b && (txSame a.t b.t && marksSame a.marks b.marks))) := rfl
  have hq := neqTag a b
  have hg := (by kernel_rfl : Try.prog.eqGuardType Try.prog.depth 31 = false)
  clear ha hb hs hs2
  unfold txv txa at K1
  unfold tagv at hq
  generalize orderSame a b = res at *
  generalize tagSame a b = b1 at *
  generalize txSame a.t b.t = b2 at *
  obtain ⟨c0, c1, c2, c3, c4, c5, c6, c7, c8, c9⟩ := HB.out.ord
  obtain ⟨d0, d1, d2, d3, d4, d5, d6, d7, d8, d9⟩ := HB2.out.ord
  unfold oda at hw1
  unfold odv oda
  cases b1
  · clear K1 d4 d5 d6 d7 d8 d9 c4 c5 c6 c7 c8 c9
    go_enter Try.func34, Try.ntmps34
    go_wp2_with fail
    rw [← hw1]
    go_ret
    exact ⟨ret_bool (by rw [HD.out]; rfl), HF.out⟩
  go_enter Try.func34, Try.ntmps34
  go_wp2_with fail
  rw [← hw1]
  clear hw1 hq
  refine K1.out.mono ?_
  rintro e w2 ⟨rfl, hf2⟩
  have HF2 := Lib.hid (HF.out.trans hf2)
  have HB3 := Lib.hid (HB.out.fr hf2 (fun h => h))
  have HB4 := Lib.hid (HB2.out.fr hf2 (fun h => h))
  clear hf2 K1 HF HB HB2 c0 c1 c2 c3 c4 c5 c6 c7 c8 c9 d0 d1 d2 d3 d4 d5 d6 d7 d8 d9
  have c9 : w2.cell? ⟨w.heap.size, 9, none⟩ = some (.slice a.ma a.marks.length a.mc) := HB3.out.cell 9
  have d9 : w2.cell? ⟨w.heap.size + 1, 9, none⟩ = some (.slice b.ma b.marks.length b.mc) := HB4.out.cell 9
  cases b2
  · go_wp2_with fail
    go_ret
    exact ⟨ret_bool (by rw [HD.out]; rfl), HF2.out⟩
  by_cases hl : a.marks.length = b.marks.length
  rotate_left
  · have hb : ((a.marks.length : Int) != (b.marks.length : Int)) = true := by rw [bne_iff_ne]; omega
    have hd : (decide (a.marks.length = b.marks.length)) = false := by simpa using hl
    have HZ := Lib.hid (marksSame_len hl)
    clear hl
    go_wp2_with fail
    go_ret
    exact ⟨ret_bool (by rw [HD.out, HZ.out]; rfl), HF2.out⟩
  have HL := Lib.hid hl
  rw [← hl] at d9 hmb
  clear hl
  go_wp2_with fail
  go_loopw [5] (fun z wr => ∃ i : Nat, i ≤ a.marks.length ∧ z = .int .i64 i ∧ Hid (∀ (j : Nat) (x y : Mk), j < i → a.marks[j]? = some x → b.marks[j]? = some y → markSame x y = true) ∧ Hid (Fr NoBlk w2 wr)) (fun z _ => a.marks.length - (intOf z).toNat)
  case atStart => exact ⟨0, by omega, rfl, (fun j _ _ h1 => absurd h1 (by omega)), Fr.refl _ _⟩
  case round =>
    obtain ⟨i, hio, rfl, HE, HFW⟩ := hrel
    clear c9 d9
    have HF3 := Lib.hid (HF2.out.trans HFW.out)
    have c9 : wr.cell? ⟨w.heap.size, 9, none⟩ = some (.slice a.ma a.marks.length a.mc) := (HB3.out.fr HFW.out (fun h => h)).cell 9
    have d9 : wr.cell? ⟨w.heap.size + 1, 9, none⟩ = some (.slice b.ma b.marks.length b.mc) := (HB4.out.fr HFW.out (fun h => h)).cell 9
    rw [← HL.out] at d9
    by_cases hlt : i < a.marks.length
    · obtain ⟨x, hx⟩ : ∃ x, a.marks[i]? = some x := ⟨_, List.getElem?_eq_getElem hlt⟩
      obtain ⟨y, hy⟩ : ∃ y, b.marks[i]? = some y := ⟨_, List.getElem?_eq_getElem (by rw [← HL.out]; exact hlt)⟩
      obtain ⟨p, o, hA, x0, x1, x2⟩ := (HA.out.marks.nofr HF3.out).mark hx
      obtain ⟨p', o', hB, y0, y1, y2⟩ := (HBB.out.marks.nofr HF3.out).mark hy
      rw [hA] at c9
      rw [hB] at d9
      have HNX : Hid (markSame x y = true → ∀ (j : Nat) (x y : Mk), j < i + 1 → a.marks[j]? = some x → b.marks[j]? = some y → markSame x y = true) := by
        intro h j x' y' hj2 hx' hy'
        by_cases e : j = i
        · subst e
          rw [hx] at hx'
          rw [hy] at hy'
          injection hx' with hx'
          injection hy' with hy'
          subst hx' hy'
          exact h
        · exact HE.out j x' y' (by omega) hx' hy'
      have HNO : Hid (markSame x y = false → res = false) := fun h => by rw [HD.out, marksSame_no hx hy h]; rfl
      have hqm := neqMark x y
      have hgm := (by kernel_rfl : Try.prog.eqGuardType Try.prog.depth 63 = false)
      unfold mkv st at hqm
      have i1 : (0 : Int) ≤ (i : Int) := by omega
      have i2 : (i : Int) < (a.marks.length : Int) := by omega
      clear hx hy hA hB
      generalize markSame x y = bb at *
      cases bb
      · have HQ := Lib.hid (HNO.out rfl)
        go_wp2_with fail
        go_quiet (fail)
        go_wp2
        go_ret
        exact ⟨ret_bool HQ.out.symm, HF3.out.drewN _⟩
      · have HY := Lib.hid (HNX.out rfl)
        go_wp2_with fail
        go_quiet (fail)
        go_wp2
        go_roundw
        case rel => exact ⟨i + 1, by omega, by go_num, HY, HFW.out.drewN _⟩
        case measure => simp [intOf]; omega
    · have HZ : Hid (marksSame a.marks b.marks = true) := marksSame_yes HL.out fun j x y hx hy => HE.out j x y (by have := (List.getElem?_eq_some_iff.1 hx).1; omega) hx hy
      have i3 : (a.marks.length : Int) ≤ (i : Int) := by omega
      go_wp2_with fail
      go_ret
      exact ⟨ret_bool (by rw [HD.out, HZ.out]; rfl), HF3.out⟩
end Go.Proofs.Ytdgjjkmgdjiliaa
