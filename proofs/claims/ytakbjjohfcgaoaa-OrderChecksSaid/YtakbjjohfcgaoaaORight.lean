/- The document's Right of an order. Conditions: the order is small. -/
import Derived.Test.YtakbjjohfcgaoaaOCheck
import Derived.Test.YtakbjjohfcgaoaaDKeys
import Derived.Test.YtakbjjohfcgaoaaRight4
namespace Go.Proofs.Ytakbjjohfcgaoaa
open Go.RowKit

theorem okM_no {r : Int} {m : Mk} {k : Bs} (h : ¬ (m.key = k ∧ 0 ≤ m.home ∧ m.home < r)) : okM r m k = false := by
  cases hb : okM r m k
  · rfl
  · unfold okM at hb
    simp only [Bool.and_eq_true, decide_eq_true_eq, beq_iff_eq] at hb
    exact absurd ⟨hb.1.1, hb.1.2, hb.2⟩ h
theorem okM_yes {r : Int} {m : Mk} {k : Bs} (h1 : m.key = k) (h2 : 0 ≤ m.home) (h3 : m.home < r) : okM r m k = true := by
  unfold okM
  simp [h1, h2, h3]

set_option maxRecDepth 100000 in
set_option maxHeartbeats 8000000 in
theorem oright_any (w : World) (o : Od) (r : Int) (ho : OdIn w o) (hs : OSmall o) :
    Calls Try.prog 13 #[odv o, .int .i64 r] w fun e w' => e = .returned (.bool (orderR o r)) ∧ Fr NoBlk w w' := by
  obtain ⟨w1, hw1⟩ : ∃ w1, w1 = (w.alloc (.cells (oda o) 33)).alloc (.cells #[.int .i64 o.node, .int .u64 (o.epoch : Int), .int .u64 (o.seq : Int)] 24) := ⟨_, rfl⟩
  have HF : Hid (Fr NoBlk w w1) := by
    show Fr _ _ _
    rw [hw1]
    exact ((Fr.refl _ _).alloc _).alloc _
  have HB : Hid (Bk w1 w.heap.size 33 (oda o)) := by
    show Bk _ _ _ _
    rw [hw1]
    exact (Bk.new w _ _).alloc _
  have HB2 : Hid (Bk w1 (w.heap.size + 1) 24 #[.int .i64 o.node, .int .u64 (o.epoch : Int), .int .u64 (o.seq : Int)]) := by
    show Bk _ _ _ _
    rw [hw1]
    exact Bk.new2 w _ _ _
  have K1 := Lib.hid (right_any w1 o.t r (ho.txn.nofr HF.out) hs.t)
  rw [docR_eq] at K1
  have K2 := Lib.hid fun W (hf : Fr NoBlk w W) => dkeys_any W o.t (ho.txn.nofr hf) hs.t
  have HO := Lib.hid ho
  have hmm := hs.m
  have HD : Hid (orderR o r = (rightR o.t r && (tagR o && marksR o r))) := rfl
  have HMD : Hid (marksR o r = zipB (okM r) o.marks (keysOf o.t.reads o.t.writes)) := rfl
  have hkl : (keysOf o.t.reads o.t.writes).length ≤ 80 := by
    have := keysOf_len o.t.reads o.t.writes
    have := hs.t.r
    have := hs.t.w
    omega
  have HT := Lib.hid (tagR_iff o)
  unfold TagR at HT
  clear ho hs
  unfold txv txa at K1 K2
  generalize orderR o r = res at *
  generalize rightR o.t r = b1 at *
  generalize hks : keysOf o.t.reads o.t.writes = ks at *
  have HKS := Lib.hid hks
  clear hks
  obtain ⟨c0, c1, c2, c3, c4, c5, c6, c7, c8, c9⟩ := HB.out.ord
  unfold oda at hw1
  unfold odv oda
  go_enter Try.func13, Try.ntmps13
  go_wp2_with fail
  rw [← hw1]
  clear hw1
  refine K1.out.mono ?_
  rintro e w2 ⟨rfl, hf2⟩
  have HF2 := Lib.hid (HF.out.trans hf2)
  have HB3 := Lib.hid (HB.out.fr hf2 (fun h => h))
  have HB4 := Lib.hid (HB2.out.fr hf2 (fun h => h))
  clear hf2 c0 c1 c2 c3 c4 c5 c6 c7 c8 c9 HB HB2 HF K1
  obtain ⟨c0, c1, c2, c3, c4, c5, c6, c7, c8, c9⟩ := HB3.out.ord
  have d0 : w2.cell? ⟨w.heap.size + 1, 0, none⟩ = some (.int .i64 o.node) := HB4.out.cell 0
  have d1 : w2.cell? ⟨w.heap.size + 1, 1, none⟩ = some (.int .u64 (o.epoch : Int)) := HB4.out.cell 1
  have d2 : w2.cell? ⟨w.heap.size + 1, 2, none⟩ = some (.int .u64 (o.seq : Int)) := HB4.out.cell 2
  cases b1
  · go_wp2_with fail
    go_ret
    exact ⟨ret_bool (by rw [HD.out]; rfl), HF2.out⟩
  by_cases ht : tagR o = true
  rotate_left
  · have HTF : Hid (res = false) := by
      show _ = _
      rw [HD.out, (by simpa using ht : tagR o = false)]
      rfl
    have ht2 : ¬ (0 ≤ o.node ∧ o.node < 9 ∧ 0 < o.epoch ∧ 0 < o.seq ∧ 0 ≤ o.tr ∧ o.tr < 3) := fun h => ht (HT.out.2 h)
    have HT2 := Lib.hid ht2
    clear ht2 ht HT K2
    generalize o.node = node at *
    generalize o.epoch = epoch at *
    generalize o.seq = seq at *
    generalize o.tr = tr at *
    go_wp2_with fail
    all_goals
      first
        | (go_ret; exact ⟨ret_bool HTF.out.symm, HF2.out⟩)
        | (exfalso; have h := HT2.out; simp_all; omega)
        | (exfalso; have h := HT2.out; omega)
  obtain ⟨t1, t2, t3, t4, t5, t6⟩ := HT.out.1 ht
  have t3' : ((o.epoch : Int) == 0) = false := beq_eq_false_iff_ne.2 (by omega)
  have t4' : ((o.seq : Int) == 0) = false := beq_eq_false_iff_ne.2 (by omega)
  have HTT := Lib.hid ht
  clear ht HT
  go_wp2_with fail
  refine (K2.out _ HF2.out).mono ?_
  rintro e w3 ⟨A3, k3, ks3, rfl, hk3, hr3, hl3, hf3⟩
  have HF3 := Lib.hid (HF2.out.trans hf3)
  have HB5 := Lib.hid (HB3.out.fr hf3 (fun h => h))
  have hke : ks3 = ks := by rw [← HKS.out]; exact hk3.of
  subst hke
  have HR3 := Lib.hid hr3
  clear hf3 hr3 hk3 hl3 c0 c1 c2 c3 c4 c5 c6 c7 c8 c9 d0 d1 d2 HB3 HB4 HF2 K2 t1 t2 t3 t4 t5 t6 t3' t4'
  have c9 : w3.cell? ⟨w.heap.size, 9, none⟩ = some (.slice o.ma o.marks.length o.mc) := HB5.out.cell 9
  by_cases hl : o.marks.length = ks3.length
  rotate_left
  · have hb : ((o.marks.length : Int) != (ks3.length : Int)) = true := by rw [bne_iff_ne]; omega
    have hd : (decide (o.marks.length = ks3.length)) = false := by simpa using hl
    have HZ : Hid (marksR o r = false) := by
      show _ = _
      rw [HMD.out]
      exact zipB_len hl
    clear hl
    go_wp2_with fail
    go_ret
    exact ⟨ret_bool (by rw [HD.out, HZ.out]; simp), HF3.out⟩
  have HL := Lib.hid hl
  rw [hl] at c9
  clear hl
  go_wp2_with fail
  clear c9
  go_loopw [7] (fun z wr => ∃ i : Nat, i ≤ ks3.length ∧ z = .int .i64 i ∧ Hid (∀ (j : Nat) (x : Mk) (k : Bs), j < i → o.marks[j]? = some x → ks3[j]? = some k → okM r x k = true) ∧ Hid (Fr NoBlk w3 wr)) (fun z _ => ks3.length - (intOf z).toNat)
  case atStart => exact ⟨0, by omega, rfl, (fun j x k h1 => absurd h1 (by omega)), Fr.refl _ _⟩
  case round =>
    obtain ⟨i, hi, rfl, HE, HFW⟩ := hrel
    by_cases hlt : i < ks3.length
    · obtain ⟨x, hxm⟩ : ∃ x, o.marks[i]? = some x := ⟨_, List.getElem?_eq_getElem (by rw [HL.out]; exact hlt)⟩
      obtain ⟨k, hkk⟩ : ∃ k, ks3[i]? = some k := ⟨_, List.getElem?_eq_getElem hlt⟩
      obtain ⟨b, o', hA, e0, e1, _⟩ := (HO.out.marks.nofr (HF3.out.trans HFW.out)).mark hxm
      obtain ⟨b', o'', rfl, f0⟩ := (HR3.out.nofr HFW.out).at_ (k := i) (v := st k) (by simp [sts, hkk])
      have c9 : wr.cell? ⟨w.heap.size, 9, none⟩ = some (.slice (some ⟨b, o', none⟩) ks3.length o.mc) := by
        have h : wr.cell? ⟨w.heap.size, 9, none⟩ = some (.slice o.ma o.marks.length o.mc) := (HB5.out.fr HFW.out (fun h => h)).cell 9
        rw [hA, HL.out] at h
        exact h
      have HN := Lib.hid (zipB_no (p := okM r) hxm hkk)
      have HX : Hid (okM r x k = true → ∀ (j : Nat) (x : Mk) (k : Bs), j < i + 1 → o.marks[j]? = some x → ks3[j]? = some k → okM r x k = true) := by
        intro h j x' k' hj hx' hk'
        by_cases e : j = i
        · subst e
          rw [hxm] at hx'
          rw [hkk] at hk'
          injection hx' with hx'
          injection hk' with hk'
          subst hx' hk'
          exact h
        · exact HE.out j x' k' (by omega) hx' hk'
      have i1 : (0 : Int) ≤ (i : Int) := by omega
      have i3 : (i : Int) < (ks3.length : Int) := by omega
      have HNO := Lib.hid (okM_no (r := r) (m := x) (k := k))
      have HYE := Lib.hid (okM_yes (r := r) (m := x) (k := k))
      have HRES : Hid (zipB (okM r) o.marks ks3 = false → res = false) := fun h => by rw [HD.out, HMD.out, h]; simp
      clear hxm hkk hA
      obtain ⟨key, home, count⟩ := x
      dsimp only at *
      unfold st at f0
      have e3 := bstr_toList key
      have e4 := bstr_toList k
      cases hb : key == k
      · have hb2 : decide (key = k) = false := by simpa using hb
        have HQ := Lib.hid (HRES.out (HN.out (HNO.out (fun h => by rw [h.1] at hb; simp at hb))))
        go_wp2_with fail
        go_quiet (fail)
        go_wp2
        go_ret
        exact ⟨ret_bool HQ.out.symm, (HF3.out.trans HFW.out).drewN _⟩
      · have he : key = k := by simpa using hb
        subst he
        clear hb
        by_cases h0 : home < 0
        · have HQ := Lib.hid (HRES.out (HN.out (HNO.out (fun h => by omega))))
          go_wp2_with fail
          go_quiet (fail)
          go_wp2
          go_ret
          exact ⟨ret_bool HQ.out.symm, (HF3.out.trans HFW.out).drewN _⟩
        · have h0d : decide (home < 0) = false := by simpa using h0
          by_cases h1 : r ≤ home
          · have HQ := Lib.hid (HRES.out (HN.out (HNO.out (fun h => by omega))))
            go_wp2_with fail
            go_quiet (fail)
            go_wp2
            go_ret
            exact ⟨ret_bool HQ.out.symm, (HF3.out.trans HFW.out).drewN _⟩
          · have h1d : decide (r ≤ home) = false := by simpa using h1
            have HY := Lib.hid (HX.out (HYE.out rfl (by omega) (by omega)))
            go_wp2_with fail
            go_quiet (fail)
            go_wp2
            go_roundw
            case rel => exact ⟨i + 1, by omega, by go_num, HY, HFW.out.drewN _⟩
            case measure => simp [intOf]; omega
    · have HZ : Hid (marksR o r = true) := by
        show _ = _
        rw [HMD.out]
        exact zipB_yes HL.out fun j x k hx hk => HE.out j x k (by have := (List.getElem?_eq_some_iff.1 hk).1; omega) hx hk
      have i3 : (ks3.length : Int) ≤ (i : Int) := by omega
      go_wp2_with fail
      go_ret
      exact ⟨ret_bool (by rw [HD.out, HTT.out, HZ.out]; rfl), HF3.out.trans HFW.out⟩
end Go.Proofs.Ytakbjjohfcgaoaa
