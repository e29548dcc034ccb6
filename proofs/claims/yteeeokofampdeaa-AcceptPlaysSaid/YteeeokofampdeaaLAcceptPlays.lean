/- AcceptPlays is true: every call of any script on a voter answers exactly as the document says. No condition. -/
import Derived.Test.YteeeokofampdeaaDx
import Derived.Deep.WholeRow
import Derived.Great.Walk
import Derived.Deep.DeepCutAuto
import Derived.Deep.RegionHeld3
namespace Go.Proofs.Yteeeokofampdeaa.acceptPlays
open Go.ChangeShapes Go.WideShapes Go.ChangeAt Go.RowKit

theorem tab_nil (V : Nat → VaT) (n : Nat) : tabL (fun _ => false) V n = [] := by
  induction n with
  | zero => rfl
  | succ n ih => rw [tab_succ, if_neg (by simp), ih]
theorem own_len {w : World} {base : Nat} {e : TypeId} {size n c : Nat} {A : Option Addr} {xs : List Value} (h : w.ownsRow base e size (.slice A n c) n xs) : n ≤ c := by
  obtain ⟨A', c', e1, h1, _⟩ := own_form h
  injection e1 with _ _ e3
  subst e3
  exact h1
set_option maxRecDepth 100000 in
set_option maxHeartbeats 16000000 in
theorem walk (W : World) (A : Option Addr) (c : Nat) (l : List Opn) (hr : Rd W A (opsc l)) (_ : ∀ x ∈ l, OpIn x) :
    Calls Try.prog 3 #[.slice A l.length c] W fun e W' => e = .returned (.bool true) ∧ Fr NoBlk W W' := by
  have HS := Lib.hid (speaks_any W)
  have HR := Lib.hid hr

  obtain ⟨n, hn⟩ : ∃ n, n = l.length := ⟨_, rfl⟩
  have HN := Lib.hid hn
  rw [← hn]
  clear hr hn
  go_enter Try.func3, Try.ntmps3
  go_wp2_with fail
  refine HS.out.mono ?_
  clear HS
  rintro e w1 ⟨rfl, hf1⟩
  have HF1 := Lib.hid hf1
  clear hf1
  by_cases h200 : (200 : Int) < (n : Int)
  · go_wp2_with fail
    go_ret
    exact ⟨rfl, HF1.out⟩
  have hn200 : n ≤ 200 := by omega
  go_wp2_with fail
  refine (vnewT_any w1).mono ?_
  rintro e w2 ⟨g, gt, O, rfl, hv2, hf2⟩
  obtain ⟨zc, hzc⟩ : ∃ zc, zc = zdv.toArray := ⟨_, rfl⟩
  have hbu : Try.prog.built 33 [] = some zc := by rw [hzc]; kernel_rfl
  obtain ⟨w3, hw3⟩ : ∃ w3, w3 = w2.alloc (.cells zc 33) := ⟨_, rfl⟩
  obtain ⟨m, hm⟩ : ∃ m, m = w2.heap.size := ⟨_, rfl⟩
  have HA3 : Hid (AvS W w3 (fun _ => False) g gt 0 [] m 0 (fun _ => false) (fun _ => zvt)) := by
    have hf3 : Fr NoBlk w2 w3 := by rw [hw3]; exact (Fr.refl _ _).alloc _
    refine ⟨⟨O, (hv2.low HF1.out.size).nofr hf3, fun k hk => ⟨fun e => e, fun e => ?_⟩⟩, ?_, ⟨fun e => e, ?_⟩, fun _ e => e.elim, (HF1.out.trans hf2).trans hf3⟩
    · rcases hk with rfl | hk
      · have := hv2.bk.lt; omega
      · have := hv2.tr.lt hk; omega
    · rw [hw3, hm, hzc]; exact zdv_in w2
    · rw [hm]; exact (HF1.out.trans hf2).size
  have HW3 := Lib.hid hw3
  have HM := Lib.hid hm
  clear hv2 hf2 hw3 hm hzc h200
  rename_i K hK
  refine hK _ _ ?_
  refine Great.wpList_runTo rfl _ rfl (.agg zc) w2 (by simp [execOp, run_build w2 _ #[] zc hbu]) ?_
  refine Great.wpList_runTo rfl _ rfl (.pointer (some ⟨w2.heap.size, 0, none⟩)) (w2.alloc (.cells zc 33)) (by simp [execOp, Act.eval, Act.put]; rfl) ?_
  rw [← HW3.out, ← HM.out]
  clear HW3 HM hbu
  try simp only [Act.put, List.setIfInBounds_toArray, List.set_cons_zero, List.set_cons_succ]
  go_wp2_with fail
  go_loopw [26] (fun i wr => ∃ (k p : Nat) (T : Nat → Bool) (V : Nat → VaT), k ≤ n ∧ i = .int .i64 (k : Int) ∧ Hid (AvS W wr (fun _ => False) g gt p (tabL T V 64) m p T V)) (fun i _ => (n - intOf i).toNat)
  case atStart => exact ⟨0, 0, fun _ => false, fun _ => zvt, by omega, rfl, by rw [tab_nil]; exact HA3.out⟩
  case round => as_aux_lemma =>
    clear HA3
    obtain ⟨k, p, T, V, hk, rfl, HA⟩ := hrel
    have hwk : IntKind.i64.wrap ((k : Int) + 1) = (k : Int) + 1 := by rw [IntWalk.i64_in _ (by omega)]
    by_cases hlt : k < n
    · have hki : (k : Int) < (n : Int) := by omega
      obtain ⟨x, hx⟩ : ∃ x, l[k]? = some x := ⟨_, List.getElem?_eq_getElem (by rw [← HN.out]; exact hlt)⟩
      obtain ⟨b, o, hAd, u0, u1, u2, u3⟩ := (HR.out.nofr HA.out.fr).opn hx
      subst hAd
      obtain ⟨xpr, xbal, xslot, xval⟩ := x
      dsimp only at u0 u1 u2 u3
      obtain ⟨ob, hob⟩ : ∃ ob, ob = wr.heap.size := ⟨_, rfl⟩
      obtain ⟨w4, hw4⟩ : ∃ w4, w4 = wr.alloc (.cells #[.bool xpr, .int .u64 (xbal : Int), .int .i64 xslot, .string (bstr xval)] 35) := ⟨_, rfl⟩
      have hf4 : Fr NoBlk wr w4 := by rw [hw4]; exact (Fr.refl _ _).alloc _
      have HX4 : Hid (Bk w4 ob 35 #[.bool xpr, .int .u64 (xbal : Int), .int .i64 xslot, .string (bstr xval)]) := by show Bk _ _ _ _; rw [hw4, hob]; exact Bk.new _ _ _
      have HA4 : Hid (AvS W w4 (fun k => k = ob) g gt p (tabL T V 64) m p T V) := HA.out.sub (fun k hk => .inr (by rw [hk, hob]; exact Nat.le_refl _)) hf4 (fun k hk => by rw [hk]; exact HX4.out.lt)
      have x0 : w4.cell? ⟨ob, 0, none⟩ = some (.bool xpr) := HX4.out.cell 0
      clear hx hf4 HA
      go_upto_region 11 with fail
      rw [← hw4, ← hob]
      clear hw4 hob u0 u1 u2 u3
      go_upto_if 31 with fail
      clear x0
      go_cut [3] (fun s3 wx => s3 = .pointer (some ⟨g, 0, none⟩) ∧ ∃ (p' : Nat) (T' : Nat → Bool) (V' : Nat → VaT), Hid (AvS W wx (fun _ => False) g gt p' (tabL T' V' 64) m p' T' V'))
      case first => as_aux_lemma =>
        cases xpr with
        | true =>
          have x1 : w4.cell? ⟨ob, 1, none⟩ = some (.int .u64 (xbal : Int)) := HX4.out.cell 1
          have x2 : w4.cell? ⟨ob, 2, none⟩ = some (.int .i64 xslot) := HX4.out.cell 2
          have x3 : w4.cell? ⟨ob, 3, none⟩ = some (.string (bstr xval)) := HX4.out.cell 3
          have HBS : Hid (W.heap.size ≤ w4.heap.size) := HA4.out.fr.size
          have HPM := Lib.hid (HA4.out.prom xbal xslot)
          clear HA4
          go_wp2_with fail
          refine HPM.out.mono ?_
          rintro e w5 ⟨A5, c5, us, hus, rfl, ho5, hf5, ha5⟩
          have HX5 := Lib.hid (HX4.out.fr hf5 (fun e => e.2 rfl))
          have HA5 := Lib.hid ha5
          have HO5 := Lib.hid ho5
          have HUS := Lib.hid hus
          clear hf5 ha5 ho5 hus HPM HX4 x1 x2 x3
          have x1 : w5.cell? ⟨ob, 1, none⟩ = some (.int .u64 (xbal : Int)) := HX5.out.cell 1
          have x2 : w5.cell? ⟨ob, 2, none⟩ = some (.int .i64 xslot) := HX5.out.cell 2
          have x3 : w5.cell? ⟨ob, 3, none⟩ = some (.string (bstr xval)) := HX5.out.cell 3
          have HDP := Lib.hid (dprom_any w5 m p T V HA5.out.dv xbal xslot)
          go_wp2_with fail
          refine HDP.out.mono ?_
          rintro e w6 ⟨A6, c6, vs, hvs, rfl, ho6, hd6, hf6⟩
          have hvu : vs = us := by rw [hvs, HUS.out, ge_tab]
          have hl64 : us.length ≤ 64 := by
            rw [← hvu, hvs]
            split
            · exact Nat.zero_le _
            · exact fromL_len _ _ _ _
          subst hvu
          have HA6 := Lib.hid (HA5.out.doc hd6 hf6).1
          have HO6 := Lib.hid (own_fr HO5.out hf6 (fun k hk e => HA5.out.mS.1 (.inr (by rw [← e]; exact hk))))
          have HSM := Lib.hid (same_yes w6 A5 A6 c5 c6 vs (own_cells HO6.out).1 (own_cells ho6).1 hl64)
          have HCAP : Hid (vs.length ≤ c5 ∧ vs.length ≤ 64) := ⟨own_len HO6.out, hl64⟩
          clear hvs ho6 hd6 hf6 hl64 HA5 HO5 HDP HUS HX5 x1 x2 x3
          generalize (!decide (xbal < p)) = bb
          have hbn : (bb != bb) = false := by simp
          obtain ⟨nu, hnu⟩ : ∃ nu, nu = vs.length := ⟨_, rfl⟩
          rw [← hnu] at HSM HCAP HA6 HO6 ⊢
          clear hnu
          go_wp2_with fail
          refine HSM.out.mono ?_
          rintro e w7 ⟨rfl, hf7⟩
          have HAV := Lib.hid (HA6.out.nofr hf7)
          have HSP := Lib.hid ((SpV.of HO6.out).nofr hf7)
          obtain ⟨p1, hp1⟩ : ∃ p1, p1 = (if xbal < p then p else xbal) := ⟨_, rfl⟩
          rw [← hp1] at HAV
          clear hp1 hf7 HSM HA6 HO6 hbn
          go_wp2_with fail
          go_loopw [61] (fun s wr => ∃ (i : Nat), i ≤ nu ∧ s = .int .i64 (i : Int) ∧ Hid (SpV wr w4.heap.size A5 nu) ∧ Hid (AvS W wr (fun k => k = ob ∨ (Value.slice A5 nu c5).ownBlock = some k) g gt p1 (tabL T V 64) m p1 T V)) (fun s _ => nu - (intOf s).toNat)
          case atStart => exact ⟨0, by omega, rfl, HSP.out, HAV.out⟩
          case round =>
            obtain ⟨i, hi', rfl, HSI, HAI⟩ := hrel
            have hcap := HCAP.out.1
            have h64 := HCAP.out.2
            have hwi : IntKind.i64.wrap ((i : Int) + 1) = (i : Int) + 1 := by rw [IntWalk.i64_in _ (by omega)]
            by_cases hlt2 : i < nu
            · have hli : (i : Int) < (nu : Int) := by omega
              obtain ⟨b2, v2, hA2, hb2, y0, y1, hset⟩ := HSI.out.at_ hlt2
              subst hA2
              have HST := Lib.hid (hset (.string { data := #[115, 112, 111, 105, 108, 116] }))
              have HAT : Hid (AvS W (wr.setCell ⟨b2, i * 3 + 2, none⟩ (.string { data := #[115, 112, 111, 105, 108, 116] })) (fun k => k = ob ∨ (Value.slice (some ⟨b2, 0, none⟩) nu c5).ownBlock = some k) g gt p1 (tabL T V 64) m p1 T V) := by
                have hb3 : W.heap.size ≤ b2 := Nat.le_trans HBS.out hb2
                exact HAI.out.far (((Fr.refl (fun k => k = b2) wr).setCell (p := ⟨b2, _, none⟩) (fun _ => rfl) _).mono fun k _ e => .inr (by rw [e]; rfl)) (HAI.out.fr.setCell (fun h => by simp only at h; omega) _)
              clear hset hb2
              go_wp2_with fail
              go_roundw
              case rel => exact ⟨i + 1, by omega, by go_num, HST, HAT⟩
              case measure => simp [intOf]; omega
            · have hli : ¬ (i : Int) < (nu : Int) := by omega
              have HAF : Hid (AvS W wr (fun _ => False) g gt p1 (tabL T V 64) m p1 T V) := HAI.out.sub (fun _ e => e.elim) (Fr.refl _ _) (fun _ e => e.elim)
              clear HAI HSI
              go_wp2_with fail
              go_meet
              exact ⟨rfl, p1, T, V, HAF⟩
        | false =>
          have HSO : Hid (∀ w' : World, Bk w' ob 35 #[.bool false, .int .u64 (xbal : Int), .int .i64 xslot, .string (bstr xval)] → w'.cell? ⟨ob, 1, none⟩ = some (.int .u64 (xbal : Int)) ∧ w'.cell? ⟨ob, 2, none⟩ = some (.int .i64 xslot) ∧ w'.cell? ⟨ob, 3, none⟩ = some (.string (bstr xval))) := fun w' h => ⟨h.cell 1, h.cell 2, h.cell 3⟩
          go_upto_region 21 with fail
          refine wp_region_held_drew (S := fun w' => Bk w' ob 35 #[.bool false, .int .u64 (xbal : Int), .int .i64 xslot, .string (bstr xval)]) (by kernel_rfl) (by exact HX4.out.fr (Fr.refl NoBlk _).drew (fun h => h)) (fun hHeld => ?_)
          obtain ⟨w6, hw6⟩ : ∃ w6, w6 = w4.drew := ⟨_, rfl⟩
          have HA6 : Hid (AvS W w6 (fun k => k = ob) g gt p (tabL T V 64) m p T V) := by show AvS _ _ _ _ _ _ _ _ _ _ _; rw [hw6]; exact HA4.out.nofr (Fr.refl NoBlk _).drew
          rw [← hw6] at hHeld ⊢
          clear hw6 HA4 HX4
          refine wpAnyH_take (i := 0) (oi := ⟨some 69, _, _, _, _, _⟩) (v := ?_) rfl (by kernel_rfl) (by kernel_rfl) (by kernel_rfl) (fun _ _ _ h => h) (Or.inl ⟨by rfl, ?_⟩) (by assumption) ?_
          rotate_left 1
          · (intro w hSw; (try dsimp only at hSw); obtain ⟨x1, x2, x3⟩ := HSO.out _ hSw; go_simp) <;> (with_reducible rfl)
          try simp only [Act.put, List.setIfInBounds_toArray, List.set_cons_zero, List.set_cons_succ]
          refine wpAnyH_take (i := 1) (oi := ⟨some 70, _, _, _, _, _⟩) (v := ?_) rfl (by kernel_rfl) (by kernel_rfl) (by kernel_rfl) (fun _ _ _ h => h) (Or.inl ⟨by rfl, ?_⟩) (by assumption) ?_
          rotate_left 1
          · (intro w hSw; (try dsimp only at hSw); obtain ⟨x1, x2, x3⟩ := HSO.out _ hSw; go_simp) <;> (with_reducible rfl)
          try simp only [Act.put, List.setIfInBounds_toArray, List.set_cons_zero, List.set_cons_succ]
          refine wpAnyH_take (i := 2) (oi := ⟨some 71, _, _, _, _, _⟩) (v := ?_) rfl (by kernel_rfl) (by kernel_rfl) (by kernel_rfl) (fun _ _ _ h => h) (Or.inl ⟨by rfl, ?_⟩) (by assumption) ?_
          rotate_left 1
          · (intro w hSw; (try dsimp only at hSw); obtain ⟨x1, x2, x3⟩ := HSO.out _ hSw; go_simp) <;> (with_reducible rfl)
          try simp only [Act.put, List.setIfInBounds_toArray, List.set_cons_zero, List.set_cons_succ]
          refine wpAnyH_take (i := 3) (oi := ⟨some 72, _, _, _, _, _⟩) (v := ?_) rfl (by kernel_rfl) (by kernel_rfl) (by kernel_rfl) (fun _ _ _ h => h) (Or.inl ⟨by rfl, ?_⟩) (by assumption) ?_
          rotate_left 1
          · (intro w hSw; (try dsimp only at hSw); obtain ⟨x1, x2, x3⟩ := HSO.out _ hSw; go_simp) <;> (with_reducible rfl)
          try simp only [Act.put, List.setIfInBounds_toArray, List.set_cons_zero, List.set_cons_succ]
          refine wpAnyH_take (i := 4) (oi := ⟨some 73, _, _, _, _, _⟩) (v := ?_) rfl (by kernel_rfl) (by kernel_rfl) (by kernel_rfl) (fun _ _ _ h => h) (Or.inl ⟨by rfl, ?_⟩) (by assumption) ?_
          rotate_left 1
          · (intro w hSw; (try dsimp only at hSw); obtain ⟨x1, x2, x3⟩ := HSO.out _ hSw; go_simp) <;> (with_reducible rfl)
          try simp only [Act.put, List.setIfInBounds_toArray, List.set_cons_zero, List.set_cons_succ]
          refine wpAnyH_take (i := 5) (oi := ⟨some 74, _, _, _, _, _⟩) (v := ?_) rfl (by kernel_rfl) (by kernel_rfl) (by kernel_rfl) (fun _ _ _ h => h) (Or.inl ⟨by rfl, ?_⟩) (by assumption) ?_
          rotate_left 1
          · (intro w hSw; (try dsimp only at hSw); obtain ⟨x1, x2, x3⟩ := HSO.out _ hSw; go_simp) <;> (with_reducible rfl)
          try simp only [Act.put, List.setIfInBounds_toArray, List.set_cons_zero, List.set_cons_succ]
          refine wpAnyH_take (i := 6) (oi := ⟨some 75, _, _, _, _, _⟩) (v := ?_) rfl (by kernel_rfl) (by kernel_rfl) (by kernel_rfl) (fun _ _ _ h => h) (Or.inl ⟨by rfl, ?_⟩) (by assumption) ?_
          rotate_left 1
          · (intro w hSw; (try dsimp only at hSw); obtain ⟨x1, x2, x3⟩ := HSO.out _ hSw; go_simp) <;> (with_reducible rfl)
          try simp only [Act.put, List.setIfInBounds_toArray, List.set_cons_zero, List.set_cons_succ]
          refine wpAnyH_take (i := 7) (oi := ⟨some 76, _, _, _, _, _⟩) (v := ?_) rfl (by kernel_rfl) (by kernel_rfl) (by kernel_rfl) (fun _ _ _ h => h) (Or.inl ⟨by rfl, ?_⟩) (by assumption) ?_
          rotate_left 1
          · (intro w hSw; (try dsimp only at hSw); obtain ⟨x1, x2, x3⟩ := HSO.out _ hSw; go_simp) <;> (with_reducible rfl)
          try simp only [Act.put, List.setIfInBounds_toArray, List.set_cons_zero, List.set_cons_succ]
          refine wpAnyH_take (i := 9) (oi := ⟨some 78, _, _, _, _, _⟩) (v := ?_) rfl (by kernel_rfl) (by kernel_rfl) (by kernel_rfl) (fun _ _ _ h => h) (Or.inl ⟨by rfl, ?_⟩) (by assumption) ?_
          rotate_left 1
          · (intro w hSw; (try dsimp only at hSw); obtain ⟨x1, x2, x3⟩ := HSO.out _ hSw; go_simp) <;> (with_reducible rfl)
          try simp only [Act.put, List.setIfInBounds_toArray, List.set_cons_zero, List.set_cons_succ]
          refine wpAnyH_take (i := 10) (oi := ⟨some 79, _, _, _, _, _⟩) (v := ?_) rfl (by kernel_rfl) (by kernel_rfl) (by kernel_rfl) (fun _ _ _ h => h) (Or.inl ⟨by rfl, ?_⟩) (by assumption) ?_
          rotate_left 1
          · (intro w hSw; (try dsimp only at hSw); obtain ⟨x1, x2, x3⟩ := HSO.out _ hSw; go_simp) <;> (with_reducible rfl)
          try simp only [Act.put, List.setIfInBounds_toArray, List.set_cons_zero, List.set_cons_succ]
          refine wpAnyH_take (i := 11) (oi := ⟨some 80, _, _, _, _, _⟩) (v := ?_) rfl (by kernel_rfl) (by kernel_rfl) (by kernel_rfl) (fun _ _ _ h => h) (Or.inl ⟨by rfl, ?_⟩) (by assumption) ?_
          rotate_left 1
          · (intro w hSw; (try dsimp only at hSw); obtain ⟨x1, x2, x3⟩ := HSO.out _ hSw; go_simp) <;> (with_reducible rfl)
          try simp only [Act.put, List.setIfInBounds_toArray, List.set_cons_zero, List.set_cons_succ]
          refine wpAnyH_take (i := 12) (oi := ⟨some 81, _, _, _, _, _⟩) (v := ?_) rfl (by kernel_rfl) (by kernel_rfl) (by kernel_rfl) (fun _ _ _ h => h) (Or.inl ⟨by rfl, ?_⟩) (by assumption) ?_
          rotate_left 1
          · (intro w hSw; (try dsimp only at hSw); obtain ⟨x1, x2, x3⟩ := HSO.out _ hSw; go_simp) <;> (with_reducible rfl)
          try simp only [Act.put, List.setIfInBounds_toArray, List.set_cons_zero, List.set_cons_succ]
          refine wpAnyH_take (i := 13) (oi := ⟨some 82, _, _, _, _, _⟩) (v := ?_) rfl (by kernel_rfl) (by kernel_rfl) (by kernel_rfl) (fun _ _ _ h => h) (Or.inl ⟨by rfl, ?_⟩) (by assumption) ?_
          rotate_left 1
          · (intro w hSw; (try dsimp only at hSw); obtain ⟨x1, x2, x3⟩ := HSO.out _ hSw; go_simp) <;> (with_reducible rfl)
          try simp only [Act.put, List.setIfInBounds_toArray, List.set_cons_zero, List.set_cons_succ]
          refine wpAnyH_take (i := 14) (oi := ⟨some 83, _, _, _, _, _⟩) (v := ?_) rfl (by kernel_rfl) (by kernel_rfl) (by kernel_rfl) (fun _ _ _ h => h) (Or.inl ⟨by rfl, ?_⟩) (by assumption) ?_
          rotate_left 1
          · (intro w hSw; (try dsimp only at hSw); obtain ⟨x1, x2, x3⟩ := HSO.out _ hSw; go_simp) <;> (with_reducible rfl)
          try simp only [Act.put, List.setIfInBounds_toArray, List.set_cons_zero, List.set_cons_succ]
          refine wpAnyH_take (i := 15) (oi := ⟨some 84, _, _, _, _, _⟩) (v := ?_) rfl (by kernel_rfl) (by kernel_rfl) (by kernel_rfl) (fun _ _ _ h => h) (Or.inl ⟨by rfl, ?_⟩) (by assumption) ?_
          rotate_left 1
          · (intro w hSw; (try dsimp only at hSw); obtain ⟨x1, x2, x3⟩ := HSO.out _ hSw; go_simp) <;> (with_reducible rfl)
          try simp only [Act.put, List.setIfInBounds_toArray, List.set_cons_zero, List.set_cons_succ]
          refine wpAnyH_take (i := 16) (oi := ⟨some 85, _, _, _, _, _⟩) (v := ?_) rfl (by kernel_rfl) (by kernel_rfl) (by kernel_rfl) (fun _ _ _ h => h) (Or.inl ⟨by rfl, ?_⟩) (by assumption) ?_
          rotate_left 1
          · (intro w hSw; (try dsimp only at hSw); obtain ⟨x1, x2, x3⟩ := HSO.out _ hSw; go_simp) <;> (with_reducible rfl)
          try simp only [Act.put, List.setIfInBounds_toArray, List.set_cons_zero, List.set_cons_succ]
          refine wpAnyH_ready (rs := [8]) (by kernel_rfl) (by simp) ?_
          refine AllReadyH.cons (o := ⟨some 77, _, _, _, _, _⟩) rfl (fun K hK => ?_) AllReadyH.nil
          have hSw := hHeld
          go_simp
          go_at_call 12
          refine (HA6.out.acc ⟨xslot, xbal, xval⟩).mono ?_
          rintro e w7 ⟨rfl, hf7, ha7⟩
          have hB7 : Bk w7 ob 35 #[.bool false, .int .u64 (xbal : Int), .int .i64 xslot, .string (bstr xval)] := Bk.fr hSw hf7 (fun e => e.2 rfl)
          have HA7 := Lib.hid ha7
          clear hf7 ha7 HA6
          refine hK.out _ _ ?_ (fun hHeld => ?_)
          · exact hB7
          clear hK K
          try simp only [Act.put, List.setIfInBounds_toArray, List.set_cons_zero, List.set_cons_succ]
          refine wpAnyH_ready (rs := [17]) (by kernel_rfl) (by simp) ?_
          refine AllReadyH.cons (o := ⟨some 86, _, _, _, _, _⟩) rfl (fun K hK => ?_) AllReadyH.nil
          have hSw := hHeld
          go_simp
          go_at_call 13
          refine (dacc_any w7 m p T V HA7.out.dv ⟨xslot, xbal, xval⟩).mono ?_
          rintro e w8 ⟨rfl, hd8, hf8⟩
          have hB8 : Bk w8 ob 35 #[.bool false, .int .u64 (xbal : Int), .int .i64 xslot, .string (bstr xval)] := Bk.fr hSw hf8 (fun e => HA7.out.mS.1 e.symm)
          have ha8 := (HA7.out.doc hd8 hf8).1
          rw [acc_tab] at ha8
          have HA8 := Lib.hid ha8
          clear hf8 hd8 ha8 HA7
          refine hK.out _ _ ?_ (fun hHeld => ?_)
          · exact hB8
          clear hK K
          try simp only [Act.put, List.setIfInBounds_toArray, List.set_cons_zero, List.set_cons_succ]
          refine wpAnyH_take (i := 18) (oi := ⟨some 87, _, _, _, _, _⟩) (v := ?_) rfl (by kernel_rfl) (by kernel_rfl) (by kernel_rfl) (fun _ _ _ h => h) (Or.inl ⟨by rfl, ?_⟩) (by assumption) ?_
          rotate_left 1
          · (intro w hSw; (try dsimp only at hSw); obtain ⟨x1, x2, x3⟩ := HSO.out _ hSw; go_simp) <;> (with_reducible rfl)
          try simp only [Act.put, List.setIfInBounds_toArray, List.set_cons_zero, List.set_cons_succ]
          refine wpAnyH_done (by kernel_rfl) ?_ _
          clear hHeld HSO
          try go_wp2_with fail
          go_meet
          exact ⟨rfl, _, _, _, HA8.out.sub (fun _ e => e.elim) (Fr.refl _ _) (fun _ e => e.elim)⟩
      case rest => as_aux_lemma =>
        obtain ⟨rfl, p', T', V', HA'⟩ := hcut
        clear HX4 HA4
        have HBS : Hid (W.heap.size ≤ wc.heap.size) := HA'.out.fr.size
        have HVT := Lib.hid HA'.out.votes
        go_wp2_with fail
        refine HVT.out.mono ?_
        rintro e w9 ⟨A9, c9, us, hus, rfl, ho9, hf9⟩
        have HA9 : Hid (AvS W w9 (fun k => (Value.slice A9 us.length c9).ownBlock = some k) g gt p' (tabL T' V' 64) m p' T' V') := HA'.out.sub (fun k hk => .inr (own_blk ho9 hk).1) hf9 (fun k hk => (own_blk ho9 hk).2)
        have HUS : Hid (us = fromL T' V' 0 64) := hus.trans (tab_from _ _ _)
        have HO9 := Lib.hid ho9
        have HCAP : Hid (us.length ≤ c9 ∧ us.length ≤ 64) := ⟨own_len ho9, by rw [HUS.out]; exact fromL_len _ _ _ _⟩
        have HSK : Hid (∀ w', Fr NoBlk w9 w' → w'.cell? ⟨m, 0, none⟩ = some (.int .u64 (p' : Int))) := fun w' hf => (HA9.out.nofr hf).dv.p_.1
        clear hus ho9 hf9 HVT HA'
        go_upto_region 24 with fail
        refine wp_region_held_drew (S := fun w' => Fr NoBlk w9 w') (by kernel_rfl) (by exact (Fr.refl NoBlk _).drew) (fun hHeld => ?_)
        refine wpAnyH_take (i := 0) (oi := ⟨some 90, _, _, _, _, _⟩) (v := ?_) rfl (by kernel_rfl) (by kernel_rfl) (by kernel_rfl) (fun _ _ _ h => h) (Or.inl ⟨by rfl, ?_⟩) (by assumption) ?_
        rotate_left 1
        · (intro w hSw; (try dsimp only at hSw); have o0 := HSK.out _ hSw; go_simp) <;> (with_reducible rfl)
        try simp only [Act.put, List.setIfInBounds_toArray, List.set_cons_zero, List.set_cons_succ]
        refine wpAnyH_take (i := 2) (oi := ⟨some 92, _, _, _, _, _⟩) (v := ?_) rfl (by kernel_rfl) (by kernel_rfl) (by kernel_rfl) (fun _ _ _ h => h) (Or.inl ⟨by rfl, ?_⟩) (by assumption) ?_
        rotate_left 1
        · (intro w hSw; (try dsimp only at hSw); have o0 := HSK.out _ hSw; go_simp) <;> (with_reducible rfl)
        try simp only [Act.put, List.setIfInBounds_toArray, List.set_cons_zero, List.set_cons_succ]
        refine wpAnyH_take (i := 3) (oi := ⟨some 93, _, _, _, _, _⟩) (v := ?_) rfl (by kernel_rfl) (by kernel_rfl) (by kernel_rfl) (fun _ _ _ h => h) (Or.inl ⟨by rfl, ?_⟩) (by assumption) ?_
        rotate_left 1
        · (intro w hSw; (try dsimp only at hSw); have o0 := HSK.out _ hSw; go_simp) <;> (with_reducible rfl)
        try simp only [Act.put, List.setIfInBounds_toArray, List.set_cons_zero, List.set_cons_succ]
        refine wpAnyH_take (i := 4) (oi := ⟨some 94, _, _, _, _, _⟩) (v := ?_) rfl (by kernel_rfl) (by kernel_rfl) (by kernel_rfl) (fun _ _ _ h => h) (Or.inl ⟨by rfl, ?_⟩) (by assumption) ?_
        rotate_left 1
        · (intro w hSw; (try dsimp only at hSw); have o0 := HSK.out _ hSw; go_simp) <;> (with_reducible rfl)
        try simp only [Act.put, List.setIfInBounds_toArray, List.set_cons_zero, List.set_cons_succ]
        refine wpAnyH_take (i := 5) (oi := ⟨some 95, _, _, _, _, _⟩) (v := ?_) rfl (by kernel_rfl) (by kernel_rfl) (by kernel_rfl) (fun _ _ _ h => h) (Or.inl ⟨by rfl, ?_⟩) (by assumption) ?_
        rotate_left 1
        · (intro w hSw; (try dsimp only at hSw); have o0 := HSK.out _ hSw; go_simp) <;> (with_reducible rfl)
        try simp only [Act.put, List.setIfInBounds_toArray, List.set_cons_zero, List.set_cons_succ]
        refine wpAnyH_ready (rs := [1]) (by kernel_rfl) (by simp) ?_
        refine AllReadyH.cons (o := ⟨some 91, _, _, _, _, _⟩) rfl (fun K hK => ?_) AllReadyH.nil
        have hSw := hHeld
        go_simp
        go_at_call 15
        refine ((HA9.out.nofr hSw).promised).mono ?_
        rintro e w' ⟨rfl, rfl⟩
        refine hK.out _ _ ?_ (fun hHeld => ?_)
        · assumption
        clear hK K
        try simp only [Act.put, List.setIfInBounds_toArray, List.set_cons_zero, List.set_cons_succ]
        refine wpAnyH_take (i := 6) (oi := ⟨some 96, _, _, _, _, _⟩) (v := ?_) rfl (by kernel_rfl) (by kernel_rfl) (by kernel_rfl) (fun _ _ _ h => h) (Or.inl ⟨by rfl, ?_⟩) (by assumption) ?_
        rotate_left 1
        · (intro w hSw; (try dsimp only at hSw); have o0 := HSK.out _ hSw; go_simp) <;> (with_reducible rfl)
        try simp only [Act.put, List.setIfInBounds_toArray, List.set_cons_zero, List.set_cons_succ]
        refine wpAnyH_take (i := 7) (oi := ⟨some 97, _, _, _, _, _⟩) (v := ?_) rfl (by kernel_rfl) (by kernel_rfl) (by kernel_rfl) (fun _ _ _ h => h) (Or.inl ⟨by rfl, ?_⟩) (by assumption) ?_
        rotate_left 1
        · (intro w hSw; (try dsimp only at hSw); have o0 := HSK.out _ hSw; go_simp) <;> (with_reducible rfl)
        try simp only [Act.put, List.setIfInBounds_toArray, List.set_cons_zero, List.set_cons_succ]
        refine wpAnyH_take (i := 8) (oi := ⟨some 98, _, _, _, _, _⟩) (v := ?_) rfl (by kernel_rfl) (by kernel_rfl) (by kernel_rfl) (fun _ _ _ h => h) (Or.inl ⟨by rfl, ?_⟩) (by assumption) ?_
        rotate_left 1
        · (intro w hSw; (try dsimp only at hSw); have o0 := HSK.out _ hSw; go_simp) <;> (with_reducible rfl)
        try simp only [Act.put, List.setIfInBounds_toArray, List.set_cons_zero, List.set_cons_succ]
        refine wpAnyH_take (i := 9) (oi := ⟨some 99, _, _, _, _, _⟩) (v := ?_) rfl (by kernel_rfl) (by kernel_rfl) (by kernel_rfl) (fun _ _ _ h => h) (Or.inl ⟨by rfl, ?_⟩) (by assumption) ?_
        rotate_left 1
        · (intro w hSw; (try dsimp only at hSw); have o0 := HSK.out _ hSw; go_simp) <;> (with_reducible rfl)
        try simp only [Act.put, List.setIfInBounds_toArray, List.set_cons_zero, List.set_cons_succ]
        refine wpAnyH_ready (rs := [10]) (by kernel_rfl) (by simp) ?_
        refine AllReadyH.cons (o := ⟨some 100, _, _, _, _, _⟩) rfl (fun K hK => ?_) AllReadyH.nil
        have hSw := hHeld
        go_simp
        go_at_call 16
        refine (dfrom_any _ m p' T' V' (HA9.out.nofr hSw).dv 0).mono ?_
        rintro e w11 ⟨A11, c11, rfl, ho11, hf11⟩
        have h11 : Fr NoBlk w9 w11 := Fr.trans hSw hf11
        rw [← HUS.out] at ho11 ⊢
        have HO11 := Lib.hid ho11
        clear ho11 hf11
        refine hK.out _ _ ?_ (fun hHeld => ?_)
        · exact h11
        clear hK K
        try simp only [Act.put, List.setIfInBounds_toArray, List.set_cons_zero, List.set_cons_succ]
        refine wpAnyH_ready (rs := [11]) (by kernel_rfl) (by simp) ?_
        refine AllReadyH.cons (o := ⟨some 101, _, _, _, _, _⟩) rfl (fun K hK => ?_) AllReadyH.nil
        have hSw := hHeld
        go_simp
        go_at_call 11
        refine (same_yes w11 A9 A11 c9 c11 us (own_cells (own_fr HO9.out hSw (fun _ _ e => e))).1 (own_cells HO11.out).1 HCAP.out.2).mono ?_
        rintro e w12 ⟨rfl, hf12⟩
        have h12 : Fr NoBlk w9 w12 := Fr.trans hSw hf12
        clear hf12
        refine hK.out _ _ ?_ (fun hHeld => ?_)
        · exact h12
        clear hK K
        try simp only [Act.put, List.setIfInBounds_toArray, List.set_cons_zero, List.set_cons_succ]
        refine wpAnyH_take (i := 12) (oi := ⟨some 102, _, _, _, _, _⟩) (v := ?_) rfl (by kernel_rfl) (by kernel_rfl) (by kernel_rfl) (fun _ _ _ h => h) (Or.inl ⟨by rfl, ?_⟩) (by assumption) ?_
        rotate_left 1
        · (intro w hSw; (try dsimp only at hSw); have o0 := HSK.out _ hSw; go_simp) <;> (with_reducible rfl)
        try simp only [Act.put, List.setIfInBounds_toArray, List.set_cons_zero, List.set_cons_succ]
        refine wpAnyH_take (i := 13) (oi := ⟨some 103, _, _, _, _, _⟩) (v := ?_) rfl (by kernel_rfl) (by kernel_rfl) (by kernel_rfl) (fun _ _ _ h => h) (Or.inl ⟨by rfl, ?_⟩) (by assumption) ?_
        rotate_left 1
        · (intro w hSw; (try dsimp only at hSw); have o0 := HSK.out _ hSw; go_simp) <;> (with_reducible rfl)
        try simp only [Act.put, List.setIfInBounds_toArray, List.set_cons_zero, List.set_cons_succ]
        refine wpAnyH_done (by kernel_rfl) ?_ _
        have HAV := Lib.hid (HA9.out.nofr hHeld)
        have HSP := Lib.hid ((SpV.of HO9.out).nofr hHeld)
        clear hHeld HSK HA9 HO9 HO11
        obtain ⟨nu, hnu⟩ : ∃ nu, nu = us.length := ⟨_, rfl⟩
        rw [← hnu] at HSP HCAP HAV ⊢
        clear hnu HUS
        go_wp2_with fail
        go_loopw [106] (fun s wr => ∃ (i : Nat), i ≤ nu ∧ s = .int .i64 (i : Int) ∧ Hid (SpV wr wc.heap.size A9 nu) ∧ Hid (AvS W wr (fun k => (Value.slice A9 nu c9).ownBlock = some k) g gt p' (tabL T' V' 64) m p' T' V')) (fun s _ => nu - (intOf s).toNat)
        case atStart => exact ⟨0, by omega, rfl, HSP.out, HAV.out⟩
        case round =>
          obtain ⟨i, hi', rfl, HSI, HAI⟩ := hrel
          have hcap := HCAP.out.1
          have h64 := HCAP.out.2
          have hwi : IntKind.i64.wrap ((i : Int) + 1) = (i : Int) + 1 := by rw [IntWalk.i64_in _ (by omega)]
          by_cases hlt2 : i < nu
          · have hli : (i : Int) < (nu : Int) := by omega
            obtain ⟨b2, v2, hA2, hb2, y0, y1, hset⟩ := HSI.out.at_ hlt2
            subst hA2
            have HST := Lib.hid (hset (.string { data := #[115, 112, 111, 105, 108, 116] }))
            have HAT : Hid (AvS W (wr.setCell ⟨b2, i * 3 + 2, none⟩ (.string { data := #[115, 112, 111, 105, 108, 116] })) (fun k => (Value.slice (some ⟨b2, 0, none⟩) nu c9).ownBlock = some k) g gt p' (tabL T' V' 64) m p' T' V') := by
              have hb3 : W.heap.size ≤ b2 := Nat.le_trans HBS.out hb2
              exact HAI.out.far (((Fr.refl (fun k => k = b2) wr).setCell (p := ⟨b2, _, none⟩) (fun _ => rfl) _).mono fun k _ e => (by rw [e]; rfl)) (HAI.out.fr.setCell (fun h => by simp only at h; omega) _)
            clear hset hb2
            go_wp2_with fail
            go_roundw
            case rel => exact ⟨i + 1, by omega, by go_num, HST, HAT⟩
            case measure => simp [intOf]; omega
          · have hli : ¬ (i : Int) < (nu : Int) := by omega
            have HAF : Hid (AvS W wr (fun _ => False) g gt p' (tabL T' V' 64) m p' T' V') := HAI.out.sub (fun _ e => e.elim) (Fr.refl _ _) (fun _ e => e.elim)
            clear HAI HSI
            go_wp2_with fail
            go_roundw
            case rel => exact ⟨k + 1, p', T', V', by omega, by go_num, HAF⟩
            case measure => simp [intOf]; omega
    · have hki : ¬ (k : Int) < (n : Int) := by omega
      go_wp2_with fail
      go_ret
      exact ⟨rfl, HA.out.fr⟩

theorem paramsOk : ∀ t ∈ Try.f3.params.toList, Try.prog.readableRec t = true ∧ t < Try.prog.types.size := fun t ht => by
  have h := List.all_eq_true.1 (show (Try.f3.params.toList.all fun t => Try.prog.readableRec t && decide (t < Try.prog.types.size)) = true by kernel_rfl) t ht
  simpa using h

set_option maxRecDepth 100000 in
theorem lifted (os : Os) (started : os.Started) (H : Type) (enc : TypeId × Value → H) :
    ReturnsInHanded {} Try.checked os 3 .any (Rows.acceptPlaysSpec.pre6 enc Try.prog Try.f3 Rows.acceptPlaysRow.domain false) (Rows.acceptPlaysSpec.post enc Try.prog Try.f3 false true false false) := by
  refine returnsInHanded_of_change (C := Try.checked) own started (by kernel_rfl) Try.func3
    (ChangeSpec.witness6 (enc := enc) (C := Try.checked) false ⟨#[], #[.slice none 0 0], []⟩ 8 (by kernel_rfl) (by kernel_rfl) (by kernel_rfl) (by kernel_rfl)) ?_
  intro W base args ds gs before hval0 hW _ _
  have hval : ∀ (j : Nat) t v, Try.f3.params[j]? = some t → args[j]? = some v → Value.okWide Try.prog W .any base t v := hval0
  have hW' := hW
  obtain ⟨p, q, hA0, hV, rfl, _, _⟩ := hW
  have hA : DataW.TrodAll enc Try.prog W 0 (fun _ => true) true Try.f3.params.toList args.toList ds p := hA0
  rw [Try.params3] at hA hval
  obtain ⟨v0, vs0, d0, ds0, p0, q0, hargs, rfl, rfl, h0, r0⟩ := trodAll_cons hA
  obtain ⟨rfl, rfl, rfl⟩ := trodAll_nil r0
  obtain rfl : args = #[v0] := by cases args; simp_all
  obtain ⟨rfl, rfl⟩ := trodVars_none hV
  obtain ⟨A, c, l, rfl, hr, hx, hn, hm⟩ := open_opns (hval 0 _ v0 rfl rfl) h0
  have walk := walk W A c l hr hx
  clear hA0 hval0
  refine walk.mono fun e W' ⟨he, hf⟩ => ?_
  subst he
  exact ⟨_, rfl, law_post laidOut paramsOk rfl rfl Try.underlying4 hW' rfl rfl rfl hf⟩

theorem said : Rows.AcceptPlaysSaid :=
  OpenClaim.holds_of_wide 3 Try.f3 rfl rfl rfl rfl rfl rfl rfl ⟨rfl, rfl, rfl, rfl, rfl⟩ rfl rfl rfl rfl rfl (by kernel_rfl) Try.func3 (by kernel_rfl)
    (of_decide_eq_true (by kernel_rfl)) (by unfold Func.isWrapper; first | (rw [if_pos (by decide +kernel)]; kernel_rfl) | (rw [if_neg (by decide +kernel)]; exact ⟨rfl, rfl⟩))
    (fun os started H enc _ => lifted os started H enc)
end Go.Proofs.Yteeeokofampdeaa.acceptPlays
