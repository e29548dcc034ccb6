/- The program's Write. Conditions: the order is small. -/
import Derived.Test.YtakbjjohfcgaoaaWOrder
import Derived.Test.YtakbjjohfcgaoaaOCheck
namespace Go.Proofs.Ytakbjjohfcgaoaa
open Go.RowKit

def Bnd (o : Od) : Prop := ∀ x ∈ o.t.ops, nB x.n
theorem opR_kind {t : Tx} {x : Opn} (h : opR t x = true) : 1 ≤ x.kind ∧ x.kind ≤ 7 := by
  by_cases hk : 1 ≤ x.kind ∧ x.kind ≤ 7
  · exact hk
  · exfalso
    have e : opR t x = false := by
      unfold opR rOp
      repeat' split
      all_goals first | rfl | (exfalso; omega)
    rw [e] at h
    cases h
theorem kindR_at {t : Tx} (h : rightR t 3 = true) : (t.kind = 1 ∨ t.kind = 2) ∧ 0 ≤ t.to ∧ t.to < 3 ∧ ∀ x ∈ t.ops, 1 ≤ x.kind ∧ x.kind ≤ 7 := by
  unfold rightR at h
  simp only [Bool.and_eq_true] at h
  have hk := h.2
  unfold kindR at hk
  by_cases h1 : t.kind = 1
  · rw [if_pos h1] at hk
    simp only [Bool.and_eq_true, decide_eq_true_eq, Bool.not_eq_true', List.any_eq_false] at hk
    refine ⟨.inl h1, by omega, by omega, fun x hx => opR_kind (t := t) ?_⟩
    have := hk.2 x hx
    simpa using this
  · rw [if_neg h1] at hk
    by_cases h2 : t.kind = 2
    · rw [if_pos h2] at hk
      simp only [Bool.and_eq_true, decide_eq_true_eq] at hk
      refine ⟨.inr h2, by omega, by omega, fun x hx => ?_⟩
      have h0 : t.ops = [] := List.eq_nil_of_length_eq_zero hk.1.1.1.2
      rw [h0] at hx
      cases hx
    · rw [if_neg h2] at hk
      cases hk
theorem orderR_wod {o : Od} (h : orderR o 3 = true) (hb : Bnd o) : WOd o := by
  unfold orderR at h
  simp only [Bool.and_eq_true] at h
  obtain ⟨k1, k2, k3, k4⟩ := kindR_at h.1
  have ht := (tagR_iff o).1 h.2.1
  unfold TagR at ht
  have hm := zipB_at h.2.2
  refine ⟨by omega, by omega, ⟨by omega, by omega, fun x hx => ?_⟩, fun m hm' => ?_⟩
  · have := k4 x hx
    exact ⟨by omega, by omega, hb x hx⟩
  · obtain ⟨j, hj, rfl⟩ := List.getElem_of_mem hm'
    have h2 := hm.2 j _ _ (List.getElem?_eq_getElem hj) (List.getElem?_eq_getElem (hm.1 ▸ hj))
    unfold okM at h2
    simp only [Bool.and_eq_true, decide_eq_true_eq] at h2
    omega
theorem flat_bound {α : Type} (f : α → List UInt8) (b : Nat) (xs : List α) (h : ∀ x ∈ xs, (f x).length ≤ b) : (xs.flatMap f).length ≤ xs.length * b := by
  induction xs with
  | nil => simp
  | cons x t ih =>
    rw [List.flatMap_cons, List.length_append, List.length_cons, Nat.succ_mul]
    have := h x (List.mem_cons_self ..)
    have := ih fun y hy => h y (List.mem_cons_of_mem _ hy)
    omega
theorem textB_len {k : Bs} (h : k.length ≤ 200) : (textB k).length ≤ 210 := by
  unfold textB
  rw [List.length_append]
  have := num_len k.length (by omega)
  omega
theorem keysB_len {ks : List Bs} (h : ks.length ≤ 40) (hk : ∀ k ∈ ks, k.length ≤ 200) : (keysB ks).length ≤ 8410 := by
  unfold keysB
  rw [List.length_append]
  have := num_len ks.length (by omega)
  have h2 := flat_bound textB 210 ks fun k hx => textB_len (hk k hx)
  have : ks.length * 210 ≤ 40 * 210 := Nat.mul_le_mul_right _ h
  omega
theorem nums_len (ns : List Nat) (h : ∀ n ∈ ns, n < 2 ^ 64) : (nums ns).length ≤ ns.length * 10 := flat_bound num 10 ns fun n hn => num_len n (h n hn)
theorem orderB_len {o : Od} (hw : WOd o) (hs : OSmall o) (hn : o.epoch < two64 ∧ o.seq < two64 ∧ ∀ m ∈ o.marks, m.count < two64) : (orderB o).length ≤ 100000 := by
  unfold two64 at hn
  unfold orderB txnB
  have h1 := nums_len [o.node.toNat, o.epoch, o.seq, o.tr.toNat] (fun n hx => by
    simp only [List.mem_cons, List.not_mem_nil, or_false] at hx
    have := hw.node; have := hw.tr
    rcases hx with rfl | rfl | rfl | rfl <;> omega)
  have h2 := nums_len [o.t.kind.toNat, o.t.to.toNat] (fun n hx => by
    simp only [List.mem_cons, List.not_mem_nil, or_false] at hx
    have := hw.t.kind; have := hw.t.to_
    rcases hx with rfl | rfl <;> omega)
  have h3 := keysB_len hs.t.r hs.t.rk
  have h4 := keysB_len hs.t.w hs.t.wk
  have hol := hs.t.o
  have h5 := num_len o.t.ops.length (by omega)
  have h6 := flat_bound opB 440 o.t.ops fun x hx => by
    have hx1 := hw.t.ops x hx
    have hx2 := hs.t.ok x hx
    unfold opB
    simp only [List.length_append]
    have := textB_len hx2.1
    have := textB_len hx2.2
    have := num_len x.kind.toNat (by omega)
    have := num_len (foldN x.n) (foldN_lt hx1.2.2)
    omega
  have h7 := flat_bound markB 20 o.marks fun m hm => by
    have := hw.marks m hm
    have := hn.2.2 m hm
    exact nums_len [m.home.toNat, m.count] (fun n hx => by
      simp only [List.mem_cons, List.not_mem_nil, or_false] at hx
      rcases hx with rfl | rfl <;> omega)
  have hml := hs.m
  have : o.t.ops.length * 440 ≤ 60 * 440 := Nat.mul_le_mul_right _ hol
  have : o.marks.length * 20 ≤ 60 * 20 := Nat.mul_le_mul_right _ hml
  simp only [List.length_append, List.length_cons, List.length_nil] at *
  omega

theorem keysR_at {t : Tx} (h : keysR t = true) : t.reads.length + t.writes.length ≤ 8 ∧ (∀ k ∈ t.reads, k.length ≤ 16) ∧ ∀ k ∈ t.writes, k.length ≤ 16 := by
  unfold keysR at h
  simp only [Bool.and_eq_true, decide_eq_true_eq, Bool.not_eq_true', List.any_eq_false] at h
  refine ⟨h.1.1.1.1.1, fun k hk => ?_, fun k hk => ?_⟩
  · have := h.1.2 k hk
    unfold noKey at this
    simp only [Bool.or_eq_true, decide_eq_true_eq, not_or] at this
    omega
  · have := h.2 k hk
    unfold noKey at this
    simp only [Bool.or_eq_true, decide_eq_true_eq, not_or] at this
    omega
theorem opR_small {t : Tx} {x : Opn} (h : opR t x = true) (hr : ∀ k ∈ t.reads, k.length ≤ 16) (hw : ∀ k ∈ t.writes, k.length ≤ 16) : x.key.length ≤ 16 ∧ x.val.2.2.length ≤ 32 := by
  have hin : inB t.writes x.key = true ∨ inB t.reads x.key = true ∨ x.key.isEmpty = true → x.key.length ≤ 16 := by
    rintro (h | h | h)
    · exact hw _ ((inB_iff _ _).1 h)
    · exact hr _ ((inB_iff _ _).1 h)
    · rw [List.isEmpty_iff] at h
      rw [h]; simp
  unfold opR rOp at h
  split at h
  · cases h
  · rename_i hv
    refine ⟨hin ?_, by omega⟩
    split at h
    · simp only [Bool.and_eq_true, Bool.or_eq_true] at h
      rcases h.1.1 with h | h
      · exact .inl h
      · exact .inr (.inl h)
    · split at h
      · simp only [Bool.and_eq_true] at h; exact .inl h.1
      · split at h
        · simp only [Bool.and_eq_true] at h; exact .inl h.1.1
        · split at h
          · simp only [Bool.and_eq_true, Bool.or_eq_true] at h
            rcases h.1 with h | h
            · exact .inl h
            · exact .inr (.inl h)
          · split at h
            · simp only [Bool.and_eq_true] at h; exact .inl h.1
            · split at h
              · simp only [Bool.and_eq_true] at h; exact .inr (.inr h.1)
              · cases h
theorem rightR_small {t : Tx} (h : rightR t 3 = true) : Small t ∧ (∀ k ∈ t.reads, k.length ≤ 16) ∧ (∀ k ∈ t.writes, k.length ≤ 16) ∧ t.reads.length + t.writes.length ≤ 8 := by
  have h0 := h
  unfold rightR at h
  simp only [Bool.and_eq_true] at h
  obtain ⟨h1, h2, h3⟩ := keysR_at h.1.2
  have hk := h.2
  refine ⟨⟨by omega, by omega, ?_, fun k hk => by have := h2 k hk; omega, fun k hk => by have := h3 k hk; omega, ?_⟩, h2, h3, h1⟩
  · unfold kindR at hk
    split at hk
    · simp only [Bool.and_eq_true, decide_eq_true_eq] at hk; omega
    · split at hk
      · simp only [Bool.and_eq_true, decide_eq_true_eq] at hk; omega
      · cases hk
  · intro x hx
    unfold kindR at hk
    split at hk
    · simp only [Bool.and_eq_true, Bool.not_eq_true', List.any_eq_false] at hk
      have := hk.2 x hx
      have := opR_small (t := t) (x := x) (by simpa using this) h2 h3
      omega
    · split at hk
      · simp only [Bool.and_eq_true, decide_eq_true_eq] at hk
        rw [List.eq_nil_of_length_eq_zero hk.1.1.1.2] at hx
        cases hx
      · cases hk
theorem orderR_small {o : Od} (h : orderR o 3 = true) : OSmall o := by
  unfold orderR at h
  simp only [Bool.and_eq_true] at h
  obtain ⟨hs, h1, h2, h3⟩ := rightR_small h.1
  have hm := zipB_at h.2.2
  have hl := keysOf_len o.t.reads o.t.writes
  refine ⟨hs, by have := hm.1; omega, fun m hm' => ?_⟩
  obtain ⟨j, hj, rfl⟩ := List.getElem_of_mem hm'
  have h4 := hm.2 j _ _ (List.getElem?_eq_getElem hj) (List.getElem?_eq_getElem (hm.1 ▸ hj))
  unfold okM at h4
  simp only [Bool.and_eq_true, beq_iff_eq] at h4
  rw [h4.1.1]
  rcases keysOf_mem (List.getElem_mem (hm.1 ▸ hj)) with h | h
  · have := h1 _ h; omega
  · have := h2 _ h; omega

def WritePost (w : World) (o : Od) (e : Ending) (w' : World) : Prop :=
  if orderR o 3 = true then ∃ v', e = .returned (.tuple #[v', .int .i64 0]) ∧ New w w' v' (orderB o) else e = .returned (.tuple #[.slice none 0 0, .int .i64 1]) ∧ Fr NoBlk w w'

set_option maxRecDepth 100000 in
set_option maxHeartbeats 4000000 in
theorem write_any (w : World) (o : Od) (ho : OdIn w o) (hrl : o.t.reads.length ≤ 1000) (hwl : o.t.writes.length ≤ 1000) (hn : Bnd o) : Calls Try.prog 18 #[odv o] w (WritePost w o) := by
  obtain ⟨w1, hw1⟩ : ∃ w1, w1 = w.alloc (.cells (oda o) 33) := ⟨_, rfl⟩
  have HF : Hid (Fr NoBlk w w1) := by
    show Fr _ _ _
    rw [hw1]
    exact (Fr.refl _ _).alloc _
  have HB : Hid (Bk w1 w.heap.size 33 (oda o)) := by
    show Bk _ _ _ _
    rw [hw1]
    exact Bk.new w _ _
  have HK1 := Lib.hid (ocheck_any w1 o 3 (ho.nofr HF.out) hrl hwl)
  have HKW := Lib.hid fun (hr : orderR o 3 = true) W base g v l (h0 : Fr NoBlk w W) hg hb0 hp hb => worder_any w W base g o v l ho h0 hg hb0 hp hb (orderR_wod hr hn) (orderR_small hr)
  have HLB := Lib.hid fun hr : orderR o 3 = true => orderB_len (orderR_wod hr hn) (orderR_small hr) ho.nums
  have HWP : Hid (∀ e w', WritePost w o e w' = if orderR o 3 = true then ∃ v', e = .returned (.tuple #[v', .int .i64 0]) ∧ New w w' v' (orderB o) else e = .returned (.tuple #[.slice none 0 0, .int .i64 1]) ∧ Fr NoBlk w w') := fun _ _ => rfl
  clear ho hn hrl hwl
  unfold odv oda at HK1 HKW
  unfold oda at hw1
  unfold odv oda
  generalize orderR o 3 = rr at *
  go_enter Try.func18, Try.ntmps18
  go_wp2_with fail
  rw [← hw1]
  clear hw1
  refine HK1.out.mono ?_
  rintro e w2 ⟨rfl, hf2⟩
  have HF2 := Lib.hid (HF.out.trans hf2)
  have HB2 := Lib.hid (HB.out.fr hf2 (fun h => h))
  clear hf2 HK1 HF HB
  cases rr
  · have e0 : codeR false = 1 := rfl
    rw [e0]
    go_wp2_with fail
    go_ret2
    rw [HWP.out]
    exact ⟨rfl, HF2.out⟩
  · have e0 : codeR true = 0 := rfl
    rw [e0]
    obtain ⟨w3, hw3⟩ : ∃ w3, w3 = w2.alloc (.cells #[.slice none 0 0] 71) := ⟨_, rfl⟩
    have HP3 : Hid (Pen w3 w2.heap.size w2.heap.size (.slice none 0 0) []) := by
      show Pen _ _ _ _ _
      rw [hw3]
      exact ⟨Bk.new _ _ _, World.ownsRow_nil _ _ _ _⟩
    have HF3 : Hid (Fr NoBlk w2 w3) := by
      show Fr _ _ _
      rw [hw3]
      exact (Fr.refl _ _).alloc _
    have HK2 := Lib.hid (HKW.out rfl w3 w2.heap.size w2.heap.size (.slice none 0 0) [] (HF2.out.trans HF3.out) HF2.out.size HF2.out.size HP3.out HF3.out.size (by have := HLB.out rfl; rw [List.nil_append]; omega))
    rw [List.nil_append] at HK2
    clear HKW
    go_upto_region 5 with fail
    rw [← hw3]
    clear hw3
    obtain ⟨c0, c1, c2, c3, c4, c5, c6, c7, c8, c9⟩ := (HB2.out.fr HF3.out (fun h => h)).ord
    go_wp2_with fail
    refine HK2.out.mono ?_
    rintro e w4 ⟨rfl, v4, hw4⟩
    have HF4 : Hid (Fr NoBlk w w4) := by
      show Fr _ _ _
      exact Wro.old (HF2.out.trans HF3.out) HF2.out.size HF2.out.size HP3.out hw4
    have HD := Lib.hid (data_any w4 w2.heap.size w2.heap.size v4 (orderB o) hw4.pen (by have := HLB.out trivial; omega))
    have HPN := Lib.hid hw4.pen
    clear hw4 HK2 c0 c1 c2 c3 c4 c5 c6 c7 c8 c9
    go_wp2_with fail
    refine HD.out.mono ?_
    rintro e w5 ⟨v5, rfl, hn5⟩
    have HN : Hid (New w w5 v5 (orderB o)) := ⟨own_base hn5.own HF4.out.size, HF4.out.trans hn5.fr⟩
    clear hn5 HD
    go_wp2_with fail
    go_ret2
    rw [HWP.out]
    exact ⟨_, rfl, HN.out⟩
end Go.Proofs.Ytakbjjohfcgaoaa
