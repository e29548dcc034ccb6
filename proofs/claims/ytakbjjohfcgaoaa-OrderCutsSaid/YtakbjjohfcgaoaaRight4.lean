/- The document's Right: the walk. Conditions: the transaction is small. -/
import Derived.Test.YtakbjjohfcgaoaaRight3
import Derived.Test.YtakbjjohfcgaoaaApp2
import Derived.Test.YtakbjjohfcgaoaaCopyL
namespace Go.Proofs.Ytakbjjohfcgaoaa
open Go.RowKit
theorem sts_append (xs ys : List Bs) : sts (xs ++ ys) = sts xs ++ sts ys := by simp [sts]

set_option maxRecDepth 100000 in
set_option maxHeartbeats 4000000 in
theorem right_any (w : World) (t : Tx) (r : Int) (ht : TxIn w t) (hs : Small t) :
    Calls Try.prog 29 #[txv t, .int .i64 r] w fun e w' => e = .returned (.bool (docR t r)) ∧ Fr NoBlk w w' := by
  obtain ⟨i0, hi, hz0, hz1, hz2⟩ := info_parts strInfo
  have HF : Hid (Fr NoBlk w (w.alloc (.cells (txa t) 30))) := (Fr.refl _ _).alloc _
  have HB := Lib.hid (Bk.new w 30 (txa t))
  have K1 := Lib.hid fun W (hf : Fr NoBlk w W) => rising_any W t.ra _ t.rc t.reads rfl (ht.reads.nofr hf) (Nat.le_trans ht.rl.1 ht.rl.2.1)
  have K2 := Lib.hid fun W (hf : Fr NoBlk w W) => rising_any W t.wa _ t.wc t.writes rfl (ht.writes.nofr hf) (Nat.le_trans ht.wl.1 ht.wl.2.1)
  have HT := Lib.hid ht
  have HS := Lib.hid hs
  have HD : Hid (docR t r = (decide (1 ≤ r) && decide (r ≤ 3) && riseB t.reads && riseB t.writes && decide (t.reads.length + t.writes.length ≤ 8) &&
    (List.range (t.reads ++ t.writes).length).all (fun j => keyOk t j ((t.reads ++ t.writes).getD j [])) && kindR t r)) := rfl
  have hrn := hs.r
  have hwn := hs.w
  have hon := hs.o
  clear ht hs
  unfold txa at HF HB
  unfold txv txa
  by_cases h1 : r < 1
  · go_enter Try.func29, Try.ntmps29
    go_wp2_with fail
    go_ret
    refine ⟨ret_bool ?_, HF.out⟩
    rw [HD.out, decide_eq_false (by omega)]
    rfl
  by_cases h3 : 3 < r
  · go_enter Try.func29, Try.ntmps29
    go_wp2_with fail
    go_ret
    refine ⟨ret_bool ?_, HF.out⟩
    rw [HD.out, decide_eq_false (show ¬ r ≤ 3 by omega), Bool.and_false]
    rfl
  have HL : Hid ((decide (1 ≤ r) && decide (r ≤ 3)) = true) := by
    show _ = true
    rw [decide_eq_true (by omega), decide_eq_true (by omega)]
    rfl
  generalize hb1 : riseB t.reads = b1 at K1 HD
  generalize hb2 : riseB t.writes = b2 at K2 HD
  clear hb1 hb2
  go_enter Try.func29, Try.ntmps29
  go_wp2_with fail
  refine (K1.out _ HF.out).mono ?_
  rintro e w1 ⟨rfl, hf1⟩
  have HF1 := Lib.hid (HF.out.trans hf1)
  have HB1 := Lib.hid (HB.out.fr hf1 (fun h => h))
  have c1 : w1.cell? ⟨w.heap.size, 1, none⟩ = some (.slice t.ra t.reads.length t.rc) := HB1.out.cell 1
  have c2 : w1.cell? ⟨w.heap.size, 2, none⟩ = some (.slice t.wa t.writes.length t.wc) := HB1.out.cell 2
  clear hf1
  cases b1
  · go_wp2_with fail
    go_ret
    refine ⟨ret_bool ?_, HF1.out⟩
    rw [HD.out]
    simp
  go_wp2_with fail
  refine (K2.out _ HF1.out).mono ?_
  rintro e w2 ⟨rfl, hf2⟩
  have HF2 := Lib.hid (HF1.out.trans hf2)
  have HB2 := Lib.hid (HB1.out.fr hf2 (fun h => h))
  have d1 : w2.cell? ⟨w.heap.size, 1, none⟩ = some (.slice t.ra t.reads.length t.rc) := HB2.out.cell 1
  have d2 : w2.cell? ⟨w.heap.size, 2, none⟩ = some (.slice t.wa t.writes.length t.wc) := HB2.out.cell 2
  have d3 : w2.cell? ⟨w.heap.size, 3, none⟩ = some (.slice t.oa t.ops.length t.oc) := HB2.out.cell 3
  have d0 : w2.cell? ⟨w.heap.size, 0, none⟩ = some (.int .i64 t.kind) := HB2.out.cell 0
  have d4 : w2.cell? ⟨w.heap.size, 4, none⟩ = some (.int .i64 t.to) := HB2.out.cell 4
  have hwl2 : w.heap.size < w2.heap.size := HB2.out.lt
  clear hf2 c1 c2 HB1
  cases b2
  · go_wp2_with fail
    go_ret
    refine ⟨ret_bool ?_, HF2.out⟩
    rw [HD.out]
    simp
  by_cases h8 : 8 < t.reads.length + t.writes.length
  · go_wp2_with fail
    all_goals
      go_ret
      refine ⟨ret_bool ?_, HF2.out⟩
      rw [HD.out, decide_eq_false (show ¬ t.reads.length + t.writes.length ≤ 8 by omega)]
      simp
  have HL8 : Hid (decide (t.reads.length + t.writes.length ≤ 8) = true) := decide_eq_true (by omega)
  go_wp2_with fail
  have HR1 : Hid (Rd (w2.alloc (.cells #[] 9)).drew t.ra (sts t.reads)) := HT.out.reads.nofr (HF2.out.trans (((Fr.refl _ _).alloc _).drew))
  have HO1 : Hid ((w2.alloc (.cells #[] 9)).drew.ownsRow w2.heap.size 9 1 (.slice (some ⟨w2.heap.size, 0, none⟩) 0 0) 0 []) := (own_new rfl (Nat.le_refl _) : (w2.alloc (.cells #[] 9)).ownsRow w2.heap.size 9 1 _ 0 [])
  have HFB : Hid (Fr NoBlk w2 (w2.alloc (.cells #[] 9)).drew) := ((Fr.refl _ _).alloc _).drew
  go_region_held3 (fun w' => w'.cell? ⟨w.heap.size, 1, none⟩ = some (.slice t.ra t.reads.length t.rc) ∧ w'.cell? ⟨w.heap.size, 2, none⟩ = some (.slice t.wa t.writes.length t.wc))
    ((first | with_reducible exact hk4 | with_reducible exact hk3 | go_keep)) (first
    | (refine step_app rfl (.tmp 48) (.tmp 50) 27 rfl w2.heap.size 9 i0 (.string ByteArray.empty) 16 Try.underlying27 hi hz0 hz1 hz2 rfl (.slice (some ⟨w2.heap.size, 0, none⟩) 0 0) 0 [] rfl HO1.out t.ra t.rc t.reads.length (sts t.reads) rfl (sts_len _) HR1.out (sts_one _) HT.out.rl.2.2 (by unfold maxLen; omega) (by omega) (by simp) ?_
       intro v3 w3 hown3 hgr3 _ _
       have HF3 : Hid (Fr NoBlk w2 w3) := HFB.out.grown hgr3 (fun k hk hlt => absurd hk (by simp [Value.ownBlock]; omega))
       have hk3 : w3.cell? ⟨w.heap.size, 1, none⟩ = some (.slice t.ra t.reads.length t.rc) ∧ w3.cell? ⟨w.heap.size, 2, none⟩ = some (.slice t.wa t.writes.length t.wc) := ⟨(HF3.out.cell (p := ⟨w.heap.size, 1, none⟩) hwl2 (fun h => h)).trans d1, (HF3.out.cell (p := ⟨w.heap.size, 2, none⟩) hwl2 (fun h => h)).trans d2⟩
       have HO3 := Lib.hid hown3
       clear hown3 hgr3)
    | (refine step_app rfl (.tmp 51) (.tmp 53) 27 rfl w2.heap.size 9 i0 (.string ByteArray.empty) 16 Try.underlying27 hi hz0 hz1 hz2 rfl v3 (0 + t.reads.length) ([] ++ sts t.reads) rfl HO3.out t.wa t.wc t.writes.length (sts t.writes) rfl (sts_len _) (HT.out.writes.nofr (HF2.out.trans HF3.out)) (sts_one _) HT.out.wl.2.2 (by unfold maxLen; omega) (by omega) HF3.out.size ?_
       intro v4 w4 hown4 hgr4 _ _
       have HF4 : Hid (Fr NoBlk w2 w4) := HF3.out.grown hgr4 (fun k hk hlt => absurd (own_blk HO3.out hk).1 (by omega))
       have hk4 : w4.cell? ⟨w.heap.size, 1, none⟩ = some (.slice t.ra t.reads.length t.rc) ∧ w4.cell? ⟨w.heap.size, 2, none⟩ = some (.slice t.wa t.writes.length t.wc) := ⟨(HF4.out.cell (p := ⟨w.heap.size, 1, none⟩) hwl2 (fun h => h)).trans d1, (HF4.out.cell (p := ⟨w.heap.size, 2, none⟩) hwl2 (fun h => h)).trans d2⟩
       have HO4 := Lib.hid hown4
       clear hown4 hgr4))
  obtain ⟨n4, hn4⟩ : ∃ n4, n4 = 0 + t.reads.length + t.writes.length := ⟨_, rfl⟩
  rw [← hn4] at HO4
  obtain ⟨A4, c4, rfl, _, _⟩ := own_form HO4.out
  have HRK : Hid (Rd w4 A4 (sts (t.reads ++ t.writes))) := by
    have := Rd.of_own HO4.out
    rw [List.nil_append, ← sts_append] at this
    exact this
  have HN4 : Hid ((t.reads ++ t.writes).length = n4) := by
    show _ = n4
    rw [List.length_append]; omega
  have hn4b : n4 ≤ 8 := by omega
  have hn4c : t.reads.length ≤ n4 := by omega
  clear hn4 hk3 HO1 HR1 HFB HO3
  have HF5 := Lib.hid (HF2.out.trans HF4.out)
  have HB5 := Lib.hid (HB2.out.fr HF4.out (fun h => h))
  clear HO4 d0 d1 d2 d3 d4 HF3
  go_wp2_with fail
  go_loopw [6] (fun z wr => ∃ k : Nat, k ≤ n4 ∧ z = .int .i64 k ∧ Hid (∀ j, j < k → keyOk t j ((t.reads ++ t.writes).getD j []) = true) ∧ Hid (Fr NoBlk w4 wr)) (fun z _ => n4 - (intOf z).toNat)
  case atStart => exact ⟨0, by omega, rfl, (fun j h1 => absurd h1 (by omega)), Fr.refl _ _⟩
  case round =>
    obtain ⟨k, hk, rfl, HL2, HFW⟩ := hrel
    have HB6 := Lib.hid (HB5.out.fr HFW.out (fun h => h))
    have HF6 := Lib.hid (HF5.out.trans HFW.out)
    have q1 : wr.cell? ⟨w.heap.size, 1, none⟩ = some (.slice t.ra t.reads.length t.rc) := HB6.out.cell 1
    have q2 : wr.cell? ⟨w.heap.size, 2, none⟩ = some (.slice t.wa t.writes.length t.wc) := HB6.out.cell 2
    by_cases hlt : k < n4
    · obtain ⟨b, o, hA, hcell⟩ := (HRK.out.nofr HFW.out).text (k := k) (by rw [HN4.out]; exact hlt)
      subst hA
      have HX : Hid (keyOk t k ((t.reads ++ t.writes).getD k []) = true → ∀ j, j < k + 1 → keyOk t j ((t.reads ++ t.writes).getD j []) = true) := by
        intro h j hj2
        by_cases e : j = k
        · subst e; exact h
        · exact HL2.out j (by omega)
      have HNO : Hid (keyOk t k ((t.reads ++ t.writes).getD k []) = false → (List.range (t.reads ++ t.writes).length).all (fun j => keyOk t j ((t.reads ++ t.writes).getD j [])) = false) := by
        intro h
        rw [List.all_eq_false]
        exact ⟨k, List.mem_range.2 (by rw [HN4.out]; exact hlt), by rw [h]; simp⟩
      have hym : ((t.reads ++ t.writes).getD k []).length ≤ 200 := by
        have hm : (t.reads ++ t.writes).getD k [] ∈ t.reads ++ t.writes := getD_mem (by rw [HN4.out]; exact hlt)
        rcases List.mem_append.1 hm with hm | hm
        · exact HS.out.rk _ hm
        · exact HS.out.wk _ hm
      generalize (t.reads ++ t.writes).getD k [] = y at HX HNO hcell hym
      have HKO : Hid (keyOk t k y = (decide (1 ≤ y.length) && decide (y.length ≤ 16) && !(decide (k < t.reads.length) && inB t.writes y))) := rfl
      have e4 := bstr_size y
      have HC := Lib.hid fun n => in_any (wr.drewN n) t.wa _ t.wc t.writes y rfl (HT.out.writes.nofr (HF6.out.drewN n)) (Nat.le_trans HT.out.wl.1 HT.out.wl.2.1)
      have i0' : (0 : Int) ≤ (k : Int) := by omega
      have i1' : (k : Int) < (n4 : Int) := by omega
      by_cases ha : y.length < 1
      · have g1 : decide ((y.length : Int) < 1) = true := decide_eq_true (by omega)
        have HQ : Hid (keyOk t k y = false) := by
          show _ = false
          rw [HKO.out, decide_eq_false (show ¬ 1 ≤ y.length by omega)]; rfl
        go_wp2_with fail
        go_quiet (fail)
        go_wp2
        go_ret
        refine ⟨ret_bool ?_, HF6.out.drewN _⟩
        rw [HD.out, HNO.out HQ.out]
        simp
      by_cases hb : 16 < y.length
      · have g1 : decide ((y.length : Int) < 1) = false := decide_eq_false (by omega)
        have g2 : decide (16 < (y.length : Int)) = true := decide_eq_true (by omega)
        have HQ : Hid (keyOk t k y = false) := by
          show _ = false
          rw [HKO.out, decide_eq_false (show ¬ y.length ≤ 16 by omega), Bool.and_false]; rfl
        go_wp2_with fail
        go_quiet (fail)
        go_wp2
        go_ret
        refine ⟨ret_bool ?_, HF6.out.drewN _⟩
        rw [HD.out, HNO.out HQ.out]
        simp
      have g1 : decide ((y.length : Int) < 1) = false := decide_eq_false (by omega)
      have g2 : decide (16 < (y.length : Int)) = false := decide_eq_false (by omega)
      by_cases hc : k < t.reads.length
      · have g3 : decide ((k : Int) < (t.reads.length : Int)) = true := decide_eq_true (by omega)
        have HQ : Hid (keyOk t k y = !(inB t.writes y)) := by
          show _ = _
          rw [HKO.out, decide_eq_true (show 1 ≤ y.length by omega), decide_eq_true (show y.length ≤ 16 by omega), decide_eq_true hc]; rfl
        generalize inB t.writes y = bb at HC HQ HKO
        cases bb
        · have HY := Lib.hid (HX.out HQ.out)
          go_wp2_with fail
          go_quiet ((go_at_call 49; exact quiet_left (HC.out _)))
          go_wp2
          go_roundw
          case rel => exact ⟨k + 1, by omega, by go_num, HY, HFW.out.drewN _⟩
          case measure => simp [intOf]; omega
        · go_wp2_with fail
          go_quiet ((go_at_call 49; exact quiet_left (HC.out _)))
          go_wp2
          go_ret
          refine ⟨ret_bool ?_, HF6.out.drewN _⟩
          rw [HD.out, HNO.out HQ.out]
          simp
      · have g3 : decide ((k : Int) < (t.reads.length : Int)) = false := decide_eq_false (by omega)
        have HY : Hid (∀ j, j < k + 1 → keyOk t j ((t.reads ++ t.writes).getD j []) = true) := HX.out (by rw [HKO.out, decide_eq_true (show 1 ≤ y.length by omega), decide_eq_true (show y.length ≤ 16 by omega), decide_eq_false hc]; rfl)
        go_wp2_with fail
        go_quiet (fail)
        go_wp2
        go_roundw
        case rel => exact ⟨k + 1, by omega, by go_num, HY, HFW.out.drewN _⟩
        case measure => simp [intOf]; omega
    · have HALL : Hid ((List.range (t.reads ++ t.writes).length).all (fun j => keyOk t j ((t.reads ++ t.writes).getD j [])) = true) := by
        show _ = true
        rw [List.all_eq_true]
        intro j hj
        exact HL2.out j (by have := List.mem_range.1 hj; rw [HN4.out] at this; omega)
      have HK : Hid (docR t r = kindR t r) := by
        show _ = _
        rw [HD.out, HL.out, HL8.out, HALL.out]
        simp
      clear HD HL HL8 HALL HL2 q1 q2 HRK HFW K1 K2
      have q0 : wr.cell? ⟨w.heap.size, 0, none⟩ = some (.int .i64 t.kind) := HB6.out.cell 0
      have q1 : wr.cell? ⟨w.heap.size, 1, none⟩ = some (.slice t.ra t.reads.length t.rc) := HB6.out.cell 1
      have q2 : wr.cell? ⟨w.heap.size, 2, none⟩ = some (.slice t.wa t.writes.length t.wc) := HB6.out.cell 2
      have q3 : wr.cell? ⟨w.heap.size, 3, none⟩ = some (.slice t.oa t.ops.length t.oc) := HB6.out.cell 3
      have q4 : wr.cell? ⟨w.heap.size, 4, none⟩ = some (.int .i64 t.to) := HB6.out.cell 4
      by_cases hk2 : t.kind = 2
      · have HK2 : Hid (docR t r = (decide (t.reads.length = 0) && decide (t.ops.length = 0) && decide (t.writes.length = 1) && decide (0 ≤ t.to) && decide (t.to < r))) := by
          show _ = _
          rw [HK.out, kindR, if_neg (by omega), if_pos hk2]
        rw [hk2] at q0
        clear hk2 HK HB6 HB5 HB2 HS HT
        generalize t.reads.length = rn at *
        generalize t.writes.length = wn at *
        generalize t.ops.length = on at *
        generalize t.to = tt at *
        go_wp2_with fail
        all_goals
          go_ret
          refine ⟨ret_bool ?_, HF6.out⟩
          rw [HK2.out]
          clear HK2 q0 q1 q2 q3 q4
          go_light
          first | (simp_all; done) | (simp_all; omega) | (simp_all; intros; omega)
      · have b2 : ((t.kind : Int) == 2) = false := by simpa using hk2
        by_cases hk1 : t.kind = 1 ∧ t.to = 0 ∧ t.ops.length ≤ 16
        · obtain ⟨e1, e2, e3⟩ := hk1
          have HK2 : Hid (docR t r = !(t.ops.any fun x => !opR t x)) := by
            show _ = _
            rw [HK.out, kindR, if_pos e1, decide_eq_true e2, decide_eq_true e3]
            simp
          have g1 : ((t.kind : Int) != 1) = false := by rw [bne_eq_false_iff_eq]; exact e1
          have g2 : ((t.to : Int) != 0) = false := by rw [bne_eq_false_iff_eq]; exact e2
          clear hk2 e1 e2 HK q1 q2
          go_wp2_with fail
          go_loopw [7] (fun z wr2 => ∃ i : Nat, i ≤ t.ops.length ∧ z = .int .i64 i ∧ Hid (∀ j x, j < i → t.ops[j]? = some x → opR t x = true) ∧ Hid (Fr NoBlk wr wr2)) (fun z _ => t.ops.length - (intOf z).toNat)
          case atStart => exact ⟨0, by omega, rfl, (fun j _ h1 => absurd h1 (by omega)), Fr.refl _ _⟩
          case round =>
            obtain ⟨i, hio, rfl, HL3, HFV⟩ := hrel
            have HB7 := Lib.hid (HB6.out.fr HFV.out (fun h => h))
            have HF7 := Lib.hid (HF6.out.trans HFV.out)
            have p0 := HB7.out.cell 0
            have p1 := HB7.out.cell 1
            have p2 := HB7.out.cell 2
            have p3 := HB7.out.cell 3
            have p4 := HB7.out.cell 4
            simp only [List.getElem?_toArray, List.getElem?_cons_zero, List.getElem?_cons_succ] at p0 p1 p2 p3 p4
            clear q0 q3 q4
            by_cases hlt : i < t.ops.length
            · obtain ⟨x, hx⟩ : ∃ x, t.ops[i]? = some x := ⟨_, List.getElem?_eq_getElem hlt⟩
              obtain ⟨b, o, hA, c0, c1, c2, c3⟩ := (HT.out.ops.nofr HF7.out).opn hx
              rw [hA] at p3
              have hv := HT.out.vals x (List.mem_of_getElem? hx)
              have HC := Lib.hid fun W (hf : Fr NoBlk w W) => op_any W t x (HT.out.nofr hf) (Nat.le_trans hv.2.1 hv.2.2.1) hv.2.2.2
              have HX : Hid (opR t x = true → ∀ j y, j < i + 1 → t.ops[j]? = some y → opR t y = true) := by
                intro h j y hj2 hy
                by_cases e : j = i
                · subst e; rw [hx] at hy; injection hy with hy; subst hy; exact h
                · exact HL3.out j y (by omega) hy
              have HN : Hid (opR t x = false → (!(t.ops.any fun x => !opR t x)) = false) := fun h => by
                rw [Bool.not_eq_false', List.any_eq_true]
                exact ⟨x, List.mem_of_getElem? hx, by rw [h]; rfl⟩
              have HA := Lib.hid hA
              clear hx hv hA
              obtain ⟨kind, key, ⟨va, vc, vb⟩, nn⟩ := x
              generalize opR t ⟨kind, key, ⟨va, vc, vb⟩, nn⟩ = rr at HC HX HN
              unfold opv txv txa at HC
              rw [HA.out] at HC
              unfold st at c1 HC
              unfold sl at c2 HC
              dsimp only at c0 c1 c2 c3 HC
              generalize vb.length = vl at c2 HC
              have i0' : (0 : Int) ≤ (i : Int) := by omega
              have i1' : (i : Int) < (t.ops.length : Int) := by omega
              have hbl : b < wr.heap.size := World.block_lt_of_cell? _ _ c0
              have hwl : w.heap.size < wr.heap.size := HB7.out.lt
              go_wp2_with fail
              go_region_held3 (fun w' => w'.cell? ⟨w.heap.size, 0, none⟩ = some (.int .i64 t.kind) ∧ w'.cell? ⟨w.heap.size, 1, none⟩ = some (.slice t.ra t.reads.length t.rc) ∧ w'.cell? ⟨w.heap.size, 2, none⟩ = some (.slice t.wa t.writes.length t.wc) ∧ w'.cell? ⟨w.heap.size, 3, none⟩ = some (.slice (some ⟨b, o, none⟩) t.ops.length t.oc) ∧ w'.cell? ⟨w.heap.size, 4, none⟩ = some (.int .i64 t.to) ∧
                  w'.cell? ⟨b, o + i * 4, none⟩ = some (.int .i64 kind) ∧ w'.cell? ⟨b, o + i * 4 + 1, none⟩ = some (.string (bstr key)) ∧ w'.cell? ⟨b, o + i * 4 + 2, none⟩ = some (.slice va vl vc) ∧ w'.cell? ⟨b, o + i * 4 + 3, none⟩ = some (.int .i64 nn))
                ((first | assumption | go_keep))
                (first | (go_at_call 50; refine (HC.out _ ?_).mono ?_; exact HF7.out.drew; rintro e w' ⟨rfl, hf'⟩; have HFo := Lib.hid hf'; have hSo := And.intro ((hf'.cell (p := ⟨w.heap.size, 0, none⟩) hwl (fun h => h)).trans p0) (And.intro ((hf'.cell (p := ⟨w.heap.size, 1, none⟩) hwl (fun h => h)).trans p1) (And.intro ((hf'.cell (p := ⟨w.heap.size, 2, none⟩) hwl (fun h => h)).trans p2) (And.intro ((hf'.cell (p := ⟨w.heap.size, 3, none⟩) hwl (fun h => h)).trans p3) (And.intro ((hf'.cell (p := ⟨w.heap.size, 4, none⟩) hwl (fun h => h)).trans p4) (And.intro ((hf'.cell (p := ⟨b, o + i * 4, none⟩) hbl (fun h => h)).trans c0) (And.intro ((hf'.cell (p := ⟨b, o + i * 4 + 1, none⟩) hbl (fun h => h)).trans c1) (And.intro ((hf'.cell (p := ⟨b, o + i * 4 + 2, none⟩) hbl (fun h => h)).trans c2) ((hf'.cell (p := ⟨b, o + i * 4 + 3, none⟩) hbl (fun h => h)).trans c3)))))))); clear hf'))
              have HFn := Lib.hid (HFV.out.trans (((Fr.refl _ _).drew).trans HFo.out))
              have HFm := Lib.hid (HF6.out.trans HFn.out)
              clear hSo HFo
              cases rr
              · go_wp2_with fail
                go_ret
                refine ⟨ret_bool ?_, HFm.out⟩
                rw [HK2.out, HN.out (by simp)]
              · have HY := Lib.hid (HX.out (by simp))
                go_wp2_with fail
                go_roundw
                case rel => exact ⟨i + 1, by omega, by go_num, HY, HFn⟩
                case measure => simp [intOf]; omega
            · have HZ : Hid ((!(t.ops.any fun x => !opR t x)) = true) := by
                show _ = true
                rw [Bool.not_eq_true', List.any_eq_false]
                intro x hx
                obtain ⟨j, hj, rfl⟩ := List.getElem_of_mem hx
                rw [HL3.out j _ (by omega) (List.getElem?_eq_getElem hj)]
                simp
              go_wp2_with fail
              go_ret
              refine ⟨ret_bool ?_, HF7.out⟩
              rw [HK2.out, HZ.out]
        · have HK2 : Hid (docR t r = false) := by
            show _ = _
            rw [HK.out, kindR]
            by_cases e1 : t.kind = 1
            · rw [if_pos e1]
              by_cases e2 : t.to = 0
              · rw [decide_eq_false (show ¬ t.ops.length ≤ 16 by omega)]; simp
              · rw [decide_eq_false e2]; rfl
            · rw [if_neg e1, if_neg hk2]
          clear hk2 HK
          by_cases e1 : t.kind = 1
          · have g1 : ((t.kind : Int) != 1) = false := by rw [bne_eq_false_iff_eq]; exact e1
            by_cases e2 : t.to = 0
            · have g2 : ((t.to : Int) != 0) = false := by rw [bne_eq_false_iff_eq]; exact e2
              have g3 : 16 < t.ops.length := by omega
              clear hk1 e1 e2
              go_wp2_with fail
              go_ret
              exact ⟨ret_bool (by rw [HK2.out]), HF6.out⟩
            · have g2 : ((t.to : Int) != 0) = true := by rw [bne_iff_ne]; exact e2
              clear hk1 e1 e2
              go_wp2_with fail
              go_ret
              exact ⟨ret_bool (by rw [HK2.out]), HF6.out⟩
          · have g1 : ((t.kind : Int) != 1) = true := by rw [bne_iff_ne]; exact e1
            clear hk1 e1
            go_wp2_with fail
            go_ret
            exact ⟨ret_bool (by rw [HK2.out]), HF6.out⟩
end Go.Proofs.Ytakbjjohfcgaoaa
