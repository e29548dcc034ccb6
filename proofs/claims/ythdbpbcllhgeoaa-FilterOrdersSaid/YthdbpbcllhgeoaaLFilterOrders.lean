/- FilterOrders is true: which entries of any global log count is told exactly. No condition. -/
import Derived.Test.YthdbpbcllhgeoaaLawp
import Derived.Test.YthdbpbcllhgeoaaSpk14
import Derived.Test.YthdbpbcllhgeoaaFst
import Derived.Test.YthdbpbcllhgeoaaGreat
namespace Go.Proofs.Ythdbpbcllhgeoaa.filterOrders
open Go.ChangeShapes Go.WideShapes Go.ChangeAt Go.RowKit Go.Maps

/-- the tags that have counted, of the first n orders. -/
def mAt (xs : List Od) (n : Nat) : Tg → Bool := fun t => (xs.take n).any fun p => decide (tgOf p = t) && !singleOf p
theorem mAt_next {xs : List Od} {n : Nat} {o : Od} (h : xs[n]? = some o) : (if singleOf o then mAt xs n else addT (mAt xs n) (tgOf o)) = mAt xs (n + 1) := by
  have e : xs.take (n + 1) = xs.take n ++ [o] := by rw [List.take_add_one, h]; rfl
  funext t
  unfold mAt addT
  rw [e, List.any_append]
  cases hs : singleOf o
  · simp [hs, eq_comm, Bool.or_comm]
  · simp [hs]
theorem firstAt_m (xs : List Od) (n : Nat) (o : Od) : firstAt xs n o = (!singleOf o && !mAt xs n (tgOf o)) := by
  unfold firstAt mAt ahead
  rw [List.not_any_eq_all_not]
theorem has_next {xs : List Od} {n : Nat} {o : Od} (h : xs[n]? = some o) : mAt xs (n + 1) (tgOf o) = (!singleOf o || mAt xs n (tgOf o)) := by
  rw [← mAt_next h]
  cases hs : singleOf o
  · simp [addT]
  · simp

set_option maxRecDepth 100000 in
set_option maxHeartbeats 4000000 in
theorem walk (w : World) (A : Option Addr) (c : Nat) (xs : List Od) (hr : Rd w A (odsc xs)) (hx : ∀ o ∈ xs, OdIn w o ∧ TgOk (tgOf o)) (hm : xs.length ≤ 9223372036854775807) :
    Calls Try.prog 4 #[.slice A xs.length c] w fun e w' => e = .returned (.bool true) ∧ Fr NoBlk w w' := by
  have HR := Lib.hid hr
  have HX := Lib.hid hx
  clear hr hx
  go_enter Try.func4, Try.ntmps4
  go_wp2_with fail
  refine (speaks_any _).mono ?_
  rintro e w1 ⟨rfl, hf1⟩
  have HF1 := Lib.hid hf1
  clear hf1
  by_cases hl : 40 < xs.length
  · have hl2 : (40 : Int) < (xs.length : Int) := by omega
    go_wp2_with fail
    go_ret
    exact ⟨rfl, HF1.out⟩
  have hl2 : (xs.length : Int) ≤ 40 := by omega
  have HLL := Lib.hid (show xs.length ≤ 40 from by omega)
  clear hl
  go_wp2_with fail
  refine (fglobal_any _).mono ?_
  rintro e w2 ⟨g, bm, rfl, h2, hf2⟩
  have HB : Hid (w.heap.size ≤ g ∧ w.heap.size ≤ bm) := ⟨Nat.le_trans HF1.out.size h2.b1, Nat.le_trans HF1.out.size h2.b2⟩
  obtain ⟨B, hB⟩ : ∃ B, B = w1.heap.size := ⟨_, rfl⟩
  rw [← hB] at h2
  clear hB
  have HF2 := Lib.hid (HF1.out.trans hf2)
  have H2 := Lib.hid h2
  clear hf2 h2 HF1
  go_wp2_with fail
  go_loopw [16] (fun z wr => ∃ n s : Nat, n ≤ xs.length ∧ z = .int .i64 n ∧ s ≤ n ∧ Hid (Fl wr B g bm s (-1) (-1) (mAt xs n)) ∧ Hid (Fr NoBlk w wr) ∧ Hid (∀ (j : Nat) (p : Od), j < n → xs[j]? = some p → p.marks.length ≤ 1000)) (fun z _ => xs.length - (intOf z).toNat)
  case atStart =>
    refine ⟨0, 0, by omega, rfl, Nat.le_refl _, ?_, HF2, fun j _ h1 => absurd h1 (by omega)⟩
    have e : mAt xs 0 = fun _ => false := by funext t; rfl
    show Fl _ _ _ _ _ _ _ _
    rw [e]
    exact H2.out
  case round =>
    obtain ⟨n, s, hn, rfl, hs, HFL, HFR, HMA⟩ := hrel
    clear H2 HF2
    by_cases hlt : n < xs.length
    · obtain ⟨o, ho⟩ : ∃ o, xs[n]? = some o := ⟨_, List.getElem?_eq_getElem hlt⟩
      obtain ⟨ho1, ho2⟩ := HX.out o (List.mem_of_getElem? ho)
      obtain ⟨Bx, O, hA, hc⟩ := (HR.out.nofr HFR.out).ord ho
      have c0 : wr.cell? ⟨Bx, O + n * 10, none⟩ = some (.int .i64 o.node) := hc 0 _ rfl
      have c1 : wr.cell? ⟨Bx, O + n * 10 + 1, none⟩ = some (.int .u64 (o.epoch : Int)) := hc 1 _ rfl
      have c2 : wr.cell? ⟨Bx, O + n * 10 + 2, none⟩ = some (.int .u64 (o.seq : Int)) := hc 2 _ rfl
      have c3 : wr.cell? ⟨Bx, O + n * 10 + 3, none⟩ = some (.int .i64 o.tr) := hc 3 _ rfl
      have c4 : wr.cell? ⟨Bx, O + n * 10 + 4, none⟩ = some (.int .i64 o.t.kind) := hc 4 _ rfl
      have c5 : wr.cell? ⟨Bx, O + n * 10 + 5, none⟩ = some (.slice o.t.ra o.t.reads.length o.t.rc) := hc 5 _ rfl
      have c6 : wr.cell? ⟨Bx, O + n * 10 + 6, none⟩ = some (.slice o.t.wa o.t.writes.length o.t.wc) := hc 6 _ rfl
      have c7 : wr.cell? ⟨Bx, O + n * 10 + 7, none⟩ = some (.slice o.t.oa o.t.ops.length o.t.oc) := hc 7 _ rfl
      have c8 : wr.cell? ⟨Bx, O + n * 10 + 8, none⟩ = some (.int .i64 o.t.to) := hc 8 _ rfl
      have c9 : wr.cell? ⟨Bx, O + n * 10 + 9, none⟩ = some (.slice o.ma o.marks.length o.mc) := hc 9 _ rfl
      have i1 : (0 : Int) ≤ (n : Int) := by omega
      have i2 : (n : Int) < (xs.length : Int) := by omega
      obtain ⟨q, hq⟩ : ∃ q, q = wr.heap.size := ⟨_, rfl⟩
      obtain ⟨w1', hw1⟩ : ∃ w1', w1' = wr.alloc (.cells (oda o) 38) := ⟨_, rfl⟩
      have HFa : Hid (Fr NoBlk wr w1') := by show Fr _ _ _; rw [hw1]; exact (Fr.refl _ _).alloc _
      have HBa : Hid (Bk w1' q 38 (oda o)) := by show Bk _ _ _ _; rw [hw1, hq]; exact Bk.new _ _ _
      have HQ : Hid (bm ≠ q ∧ q = wr.heap.size) := ⟨by have := HFL.out.mp.lt; omega, hq⟩
      have HG := Lib.hid (ogreat_any w1' o ((ho1.nofr HFR.out).nofr HFa.out))
      have HW1 := Lib.hid hw1
      have HO := Lib.hid ho
      have HSL := Lib.hid hs
      have HO1 := Lib.hid ho1
      have HO2 := Lib.hid ho2
      have d0 : w1'.cell? ⟨q, 0, none⟩ = some (.int .i64 o.node) := HBa.out.cell 0
      have d1 : w1'.cell? ⟨q, 1, none⟩ = some (.int .u64 (o.epoch : Int)) := HBa.out.cell 1
      have d2 : w1'.cell? ⟨q, 2, none⟩ = some (.int .u64 (o.seq : Int)) := HBa.out.cell 2
      have d3 : w1'.cell? ⟨q, 3, none⟩ = some (.int .i64 o.tr) := HBa.out.cell 3
      have d4 : w1'.cell? ⟨q, 4, none⟩ = some (.int .i64 o.t.kind) := HBa.out.cell 4
      have d5 : w1'.cell? ⟨q, 5, none⟩ = some (.slice o.t.ra o.t.reads.length o.t.rc) := HBa.out.cell 5
      have d6 : w1'.cell? ⟨q, 6, none⟩ = some (.slice o.t.wa o.t.writes.length o.t.wc) := HBa.out.cell 6
      have d7 : w1'.cell? ⟨q, 7, none⟩ = some (.slice o.t.oa o.t.ops.length o.t.oc) := HBa.out.cell 7
      have d8 : w1'.cell? ⟨q, 8, none⟩ = some (.int .i64 o.t.to) := HBa.out.cell 8
      have d9 : w1'.cell? ⟨q, 9, none⟩ = some (.slice o.ma o.marks.length o.mc) := HBa.out.cell 9
      subst hA
      clear hc ho ho1 ho2 hw1 hq hs
      unfold odv oda at HG
      unfold oda at HW1
      go_wp2_with fail
      rw [← HW1.out, ← HQ.out.2]
      clear HW1 c0 c1 c2 c3 c4 c5 c6 c7 c8 c9
      go_wp2_with fail
      refine HG.out.mono ?_
      clear HG d0 d1 d2 d3 d4 d5 d6 d7 d8 d9
      rintro e w2 ⟨⟨bb, rfl, hsm⟩, hf2⟩
      have HF2 := Lib.hid (HFR.out.trans (HFa.out.trans hf2))
      have HL2 := Lib.hid ((HFL.out.nofr HFa.out).nofr hf2)
      have HB2 := Lib.hid (HBa.out.fr hf2 fun e => e)
      have HSM := Lib.hid hsm
      clear hf2 hsm HFa HBa HFR HFL
      cases bb with
      | true =>
        go_wp2_with fail
        go_ret
        exact ⟨rfl, HF2.out⟩
      | false =>
        have hmk : o.marks.length ≤ 1000 := Nat.le_trans (HSM.out rfl).m (by omega)
        have HMN : Hid (∀ (j : Nat) (p : Od), j < n + 1 → xs[j]? = some p → p.marks.length ≤ 1000) := by
          intro j p hj hp
          by_cases e : j = n
          · subst e
            rw [HO.out] at hp
            injection hp with hp
            subst hp
            exact hmk
          · exact HMA.out j p (by omega) hp
        obtain ⟨sg, hsg⟩ : ∃ sg, sg = singleOf o := ⟨_, rfl⟩
        obtain ⟨mb, hmb⟩ : ∃ mb, mb = mAt xs n (tgOf o) := ⟨_, rfl⟩
        have HBM : Hid (∀ W, Fr (fun b => b = bm) w2 W → Fr NoBlk w W) := fun W hW => HF2.out.step hW fun i hi e => by have := HB.out.2; omega
        have HSD : Hid (∀ W, Fr (fun b => b = bm) w2 W → Bk W q 38 #[.int .i64 o.node, .int .u64 (o.epoch : Int), .int .u64 (o.seq : Int), .int .i64 o.tr, .int .i64 o.t.kind, .slice o.t.ra o.t.reads.length o.t.rc, .slice o.t.wa o.t.writes.length o.t.wc, .slice o.t.oa o.t.ops.length o.t.oc, .int .i64 o.t.to, .slice o.ma o.marks.length o.mc]) := fun W hW => HB2.out.fr hW fun e => HQ.out.1 e.symm
        have HOR : Hid (Calls Try.prog 22 #[.pointer (some ⟨g, 0, none⟩), odv o] w2.drew fun e w3 => e = .returned (.bool (!sg && !mb)) ∧ (∃ s', s' ≤ s + 1 ∧ Fl w3 B g bm s' (-1) (-1) (mAt xs (n + 1))) ∧ Fr (fun b => b = bm) w2.drew w3) := by
          show Calls _ _ _ _ _
          have hh := forder_any w2.drew B g bm s (-1) (-1) (mAt xs n) (HL2.out.nofr (Fr.refl _ _).drew) (by have := HSL.out; have := HLL.out; omega) o (HO1.out.nofr (HF2.out.trans (Fr.refl _ _).drew)) hmk HO2.out
          unfold OrdPost at hh
          rw [mAt_next HO.out, ← hsg, ← hmb] at hh
          exact hh
        have HFS : Hid (∀ W, Fr NoBlk w W → Calls Try.prog 23 #[.slice (some ⟨Bx, O, none⟩) xs.length c, .int .i64 n] W fun e w' => e = .returned (.bool (!sg && !mb)) ∧ Fr NoBlk W w') := fun W hW => by
          have hh := dfirst_any W _ c xs (HR.out.nofr hW) HLL.out n o HO.out fun j p hj hp => ⟨(HX.out p (List.mem_of_getElem? hp)).1.nofr hW, HMN.out j p (by omega) hp⟩
          rw [firstAt_m, ← hsg, ← hmb] at hh
          exact hh
        have HHS : Hid (∀ (W : World) (s' : Nat), Fl W B g bm s' (-1) (-1) (mAt xs (n + 1)) → Calls Try.prog 16 #[.pointer (some ⟨g, 0, none⟩), tgv (tgOf o)] W fun e w' => e = .returned (.bool (!sg || mb)) ∧ Fr NoBlk W w') := fun W s' hW => by
          have hh := fhas_any W B g bm s' (-1) (-1) _ hW (tgOf o) HO2.out
          rw [has_next HO.out, ← hsg, ← hmb] at hh
          exact hh
        have HSS : Hid (∀ W, Fr NoBlk w W → Calls Try.prog 24 #[odv o] W fun e w' => e = .returned (.bool sg) ∧ Fr NoBlk W w') := fun W hW => by
          have hh := dsingle_any W o (HO1.out.nofr hW) hmk
          rw [← hsg] at hh
          exact hh
        clear hsg hmb hmk HSM HL2 HF2 HMA HB2
        unfold odv oda at HOR HSS
        unfold tgv tgOf at HHS
        dsimp only at HHS
        go_wp2_with fail
        refine wp_region_held_drew (S := fun w' => Bk w' q 38 #[.int .i64 o.node, .int .u64 (o.epoch : Int), .int .u64 (o.seq : Int), .int .i64 o.tr, .int .i64 o.t.kind, .slice o.t.ra o.t.reads.length o.t.rc, .slice o.t.wa o.t.writes.length o.t.wc, .slice o.t.oa o.t.ops.length o.t.oc, .int .i64 o.t.to, .slice o.ma o.marks.length o.mc]) (by kernel_rfl) (HSD.out _ (Fr.refl _ _).drew) (fun hHeld => ?_)
        cases sg with
        | false =>
          cases mb with
          | false =>
            refine wpAnyH_take (i := 0) (oi := ⟨some 23, _, _, _, _, _⟩) (v := ?_) rfl (by kernel_rfl) (by kernel_rfl) (by kernel_rfl) (fun _ _ _ h => h) (Or.inl ⟨by rfl, ?_⟩) (by assumption) ?_
            rotate_left 1
            · (intro w hSw; (try dsimp only at hSw); have k0 := hSw.cell 0; have k1 := hSw.cell 1; have k2 := hSw.cell 2; have k3 := hSw.cell 3; have k4 := hSw.cell 4; have k5 := hSw.cell 5; have k6 := hSw.cell 6; have k7 := hSw.cell 7; have k8 := hSw.cell 8; have k9 := hSw.cell 9; clear hSw; simp only [List.getElem?_toArray, List.getElem?_cons_succ, List.getElem?_cons_zero] at k0 k1 k2 k3 k4 k5 k6 k7 k8 k9; go_simp) <;> (with_reducible rfl)
            try simp only [Act.put, List.setIfInBounds_toArray, List.set_cons_zero, List.set_cons_succ]
            refine wpAnyH_take (i := 1) (oi := ⟨some 24, _, _, _, _, _⟩) (v := ?_) rfl (by kernel_rfl) (by kernel_rfl) (by kernel_rfl) (fun _ _ _ h => h) (Or.inl ⟨by rfl, ?_⟩) (by assumption) ?_
            rotate_left 1
            · (intro w hSw; (try dsimp only at hSw); have k0 := hSw.cell 0; have k1 := hSw.cell 1; have k2 := hSw.cell 2; have k3 := hSw.cell 3; have k4 := hSw.cell 4; have k5 := hSw.cell 5; have k6 := hSw.cell 6; have k7 := hSw.cell 7; have k8 := hSw.cell 8; have k9 := hSw.cell 9; clear hSw; simp only [List.getElem?_toArray, List.getElem?_cons_succ, List.getElem?_cons_zero] at k0 k1 k2 k3 k4 k5 k6 k7 k8 k9; go_simp) <;> (with_reducible rfl)
            try simp only [Act.put, List.setIfInBounds_toArray, List.set_cons_zero, List.set_cons_succ]
            refine wpAnyH_take (i := 3) (oi := ⟨some 26, _, _, _, _, _⟩) (v := ?_) rfl (by kernel_rfl) (by kernel_rfl) (by kernel_rfl) (fun _ _ _ h => h) (Or.inl ⟨by rfl, ?_⟩) (by assumption) ?_
            rotate_left 1
            · (intro w hSw; (try dsimp only at hSw); have k0 := hSw.cell 0; have k1 := hSw.cell 1; have k2 := hSw.cell 2; have k3 := hSw.cell 3; have k4 := hSw.cell 4; have k5 := hSw.cell 5; have k6 := hSw.cell 6; have k7 := hSw.cell 7; have k8 := hSw.cell 8; have k9 := hSw.cell 9; clear hSw; simp only [List.getElem?_toArray, List.getElem?_cons_succ, List.getElem?_cons_zero] at k0 k1 k2 k3 k4 k5 k6 k7 k8 k9; go_simp) <;> (with_reducible rfl)
            try simp only [Act.put, List.setIfInBounds_toArray, List.set_cons_zero, List.set_cons_succ]
            refine wpAnyH_take (i := 4) (oi := ⟨some 27, _, _, _, _, _⟩) (v := ?_) rfl (by kernel_rfl) (by kernel_rfl) (by kernel_rfl) (fun _ _ _ h => h) (Or.inl ⟨by rfl, ?_⟩) (by assumption) ?_
            rotate_left 1
            · (intro w hSw; (try dsimp only at hSw); have k0 := hSw.cell 0; have k1 := hSw.cell 1; have k2 := hSw.cell 2; have k3 := hSw.cell 3; have k4 := hSw.cell 4; have k5 := hSw.cell 5; have k6 := hSw.cell 6; have k7 := hSw.cell 7; have k8 := hSw.cell 8; have k9 := hSw.cell 9; clear hSw; simp only [List.getElem?_toArray, List.getElem?_cons_succ, List.getElem?_cons_zero] at k0 k1 k2 k3 k4 k5 k6 k7 k8 k9; go_simp) <;> (with_reducible rfl)
            try simp only [Act.put, List.setIfInBounds_toArray, List.set_cons_zero, List.set_cons_succ]
            refine wpAnyH_ready (rs := [2]) (by kernel_rfl) (by simp) ?_
            refine AllReadyH.cons (o := ⟨some 25, _, _, _, _, _⟩) rfl (fun K hK => ?_) AllReadyH.nil
            go_simp
            go_at_call 22
            refine HOR.out.mono ?_
            clear HOR hHeld
            rintro e w3 ⟨he, ⟨s', hs', h3⟩, hf3⟩
            obtain rfl : e = .returned (.bool true) := he
            have HF3 : Hid (Fr (fun b => b = bm) w2 w3) := (Fr.refl _ _).drew.trans hf3
            have HS3 := Lib.hid hs'
            have H3 := Lib.hid h3
            clear hs' h3 hf3
            have HN3 := Lib.hid (HBM.out _ HF3.out)
            have HFI := Lib.hid (HFS.out _ HN3.out)
            clear HN3
            refine hK.out _ _ ?_ (fun hHeld => ?_)
            · exact HSD.out _ HF3.out
            clear hK K
            try simp only [Act.put, List.setIfInBounds_toArray, List.set_cons_zero, List.set_cons_succ]
            refine wpAnyH_ready (rs := [5]) (by kernel_rfl) (by simp) ?_
            refine AllReadyH.cons (o := ⟨some 28, _, _, _, _, _⟩) rfl (fun K hK => ?_) AllReadyH.nil
            go_simp
            go_at_call 23
            refine HFI.out.mono ?_
            clear HFI hHeld
            rintro e w4 ⟨he, hf4⟩
            obtain rfl : e = .returned (.bool true) := he
            have HF4 : Hid (Fr (fun b => b = bm) w2 w4) := HF3.out.trans (hf4.mono fun _ _ e => e.elim)
            have H4 := Lib.hid (H3.out.nofr hf4)
            have HHA := Lib.hid (HHS.out _ _ H4.out)
            clear hf4 H3
            refine hK.out _ _ ?_ (fun hHeld => ?_)
            · exact HSD.out _ HF4.out
            clear hK K
            try simp only [Act.put, List.setIfInBounds_toArray, List.set_cons_zero, List.set_cons_succ]
            refine wpAnyH_take (i := 6) (oi := ⟨some 29, _, _, _, _, _⟩) (v := ?_) rfl (by kernel_rfl) (by kernel_rfl) (by kernel_rfl) (fun _ _ _ h => h) (Or.inl ⟨by rfl, ?_⟩) (by assumption) ?_
            rotate_left 1
            · (intro w hSw; (try dsimp only at hSw); have k0 := hSw.cell 0; have k1 := hSw.cell 1; have k2 := hSw.cell 2; have k3 := hSw.cell 3; have k4 := hSw.cell 4; have k5 := hSw.cell 5; have k6 := hSw.cell 6; have k7 := hSw.cell 7; have k8 := hSw.cell 8; have k9 := hSw.cell 9; clear hSw; simp only [List.getElem?_toArray, List.getElem?_cons_succ, List.getElem?_cons_zero] at k0 k1 k2 k3 k4 k5 k6 k7 k8 k9; go_simp) <;> (with_reducible rfl)
            try simp only [Act.put, List.setIfInBounds_toArray, List.set_cons_zero, List.set_cons_succ]
            refine wpAnyH_take (i := 7) (oi := ⟨some 30, _, _, _, _, _⟩) (v := ?_) rfl (by kernel_rfl) (by kernel_rfl) (by kernel_rfl) (fun _ _ _ h => h) (Or.inl ⟨by rfl, ?_⟩) (by assumption) ?_
            rotate_left 1
            · (intro w hSw; (try dsimp only at hSw); have k0 := hSw.cell 0; have k1 := hSw.cell 1; have k2 := hSw.cell 2; have k3 := hSw.cell 3; have k4 := hSw.cell 4; have k5 := hSw.cell 5; have k6 := hSw.cell 6; have k7 := hSw.cell 7; have k8 := hSw.cell 8; have k9 := hSw.cell 9; clear hSw; simp only [List.getElem?_toArray, List.getElem?_cons_succ, List.getElem?_cons_zero] at k0 k1 k2 k3 k4 k5 k6 k7 k8 k9; go_simp) <;> (with_reducible rfl)
            try simp only [Act.put, List.setIfInBounds_toArray, List.set_cons_zero, List.set_cons_succ]
            refine wpAnyH_take (i := 8) (oi := ⟨some 31, _, _, _, _, _⟩) (v := ?_) rfl (by kernel_rfl) (by kernel_rfl) (by kernel_rfl) (fun _ _ _ h => h) (Or.inl ⟨by rfl, ?_⟩) (by assumption) ?_
            rotate_left 1
            · (intro w hSw; (try dsimp only at hSw); have k0 := hSw.cell 0; have k1 := hSw.cell 1; have k2 := hSw.cell 2; have k3 := hSw.cell 3; have k4 := hSw.cell 4; have k5 := hSw.cell 5; have k6 := hSw.cell 6; have k7 := hSw.cell 7; have k8 := hSw.cell 8; have k9 := hSw.cell 9; clear hSw; simp only [List.getElem?_toArray, List.getElem?_cons_succ, List.getElem?_cons_zero] at k0 k1 k2 k3 k4 k5 k6 k7 k8 k9; go_simp) <;> (with_reducible rfl)
            try simp only [Act.put, List.setIfInBounds_toArray, List.set_cons_zero, List.set_cons_succ]
            refine wpAnyH_take (i := 9) (oi := ⟨some 32, _, _, _, _, _⟩) (v := ?_) rfl (by kernel_rfl) (by kernel_rfl) (by kernel_rfl) (fun _ _ _ h => h) (Or.inl ⟨by rfl, ?_⟩) (by assumption) ?_
            rotate_left 1
            · (intro w hSw; (try dsimp only at hSw); have k0 := hSw.cell 0; have k1 := hSw.cell 1; have k2 := hSw.cell 2; have k3 := hSw.cell 3; have k4 := hSw.cell 4; have k5 := hSw.cell 5; have k6 := hSw.cell 6; have k7 := hSw.cell 7; have k8 := hSw.cell 8; have k9 := hSw.cell 9; clear hSw; simp only [List.getElem?_toArray, List.getElem?_cons_succ, List.getElem?_cons_zero] at k0 k1 k2 k3 k4 k5 k6 k7 k8 k9; go_simp) <;> (with_reducible rfl)
            try simp only [Act.put, List.setIfInBounds_toArray, List.set_cons_zero, List.set_cons_succ]
            refine wpAnyH_take (i := 10) (oi := ⟨some 33, _, _, _, _, _⟩) (v := ?_) rfl (by kernel_rfl) (by kernel_rfl) (by kernel_rfl) (fun _ _ _ h => h) (Or.inl ⟨by rfl, ?_⟩) (by assumption) ?_
            rotate_left 1
            · (intro w hSw; (try dsimp only at hSw); have k0 := hSw.cell 0; have k1 := hSw.cell 1; have k2 := hSw.cell 2; have k3 := hSw.cell 3; have k4 := hSw.cell 4; have k5 := hSw.cell 5; have k6 := hSw.cell 6; have k7 := hSw.cell 7; have k8 := hSw.cell 8; have k9 := hSw.cell 9; clear hSw; simp only [List.getElem?_toArray, List.getElem?_cons_succ, List.getElem?_cons_zero] at k0 k1 k2 k3 k4 k5 k6 k7 k8 k9; go_simp) <;> (with_reducible rfl)
            try simp only [Act.put, List.setIfInBounds_toArray, List.set_cons_zero, List.set_cons_succ]
            refine wpAnyH_take (i := 12) (oi := ⟨some 35, _, _, _, _, _⟩) (v := ?_) rfl (by kernel_rfl) (by kernel_rfl) (by kernel_rfl) (fun _ _ _ h => h) (Or.inl ⟨by rfl, ?_⟩) (by assumption) ?_
            rotate_left 1
            · (intro w hSw; (try dsimp only at hSw); have k0 := hSw.cell 0; have k1 := hSw.cell 1; have k2 := hSw.cell 2; have k3 := hSw.cell 3; have k4 := hSw.cell 4; have k5 := hSw.cell 5; have k6 := hSw.cell 6; have k7 := hSw.cell 7; have k8 := hSw.cell 8; have k9 := hSw.cell 9; clear hSw; simp only [List.getElem?_toArray, List.getElem?_cons_succ, List.getElem?_cons_zero] at k0 k1 k2 k3 k4 k5 k6 k7 k8 k9; go_simp) <;> (with_reducible rfl)
            try simp only [Act.put, List.setIfInBounds_toArray, List.set_cons_zero, List.set_cons_succ]
            refine wpAnyH_ready (rs := [11]) (by kernel_rfl) (by simp) ?_
            refine AllReadyH.cons (o := ⟨some 34, _, _, _, _, _⟩) rfl (fun K hK => ?_) AllReadyH.nil
            go_simp
            go_at_call 16
            refine HHA.out.mono ?_
            clear HHA hHeld
            rintro e w5 ⟨he, hf5⟩
            obtain rfl : e = .returned (.bool true) := he
            have HF5 : Hid (Fr (fun b => b = bm) w2 w5) := HF4.out.trans (hf5.mono fun _ _ e => e.elim)
            have H5 := Lib.hid (H4.out.nofr hf5)
            have HN5 := Lib.hid (HBM.out _ HF5.out)
            have HSI := Lib.hid (HSS.out _ HN5.out)
            clear hf5 H4
            refine hK.out _ _ ?_ (fun hHeld => ?_)
            · exact HSD.out _ HF5.out
            clear hK K
            try simp only [Act.put, List.setIfInBounds_toArray, List.set_cons_zero, List.set_cons_succ]
            refine wpAnyH_ready (rs := [13]) (by kernel_rfl) (by simp) ?_
            refine AllReadyH.cons (o := ⟨some 36, _, _, _, _, _⟩) rfl (fun K hK => ?_) AllReadyH.nil
            go_simp
            go_at_call 24
            refine HSI.out.mono ?_
            clear HSI hHeld HN5
            rintro e w6 ⟨he, hf6⟩
            obtain rfl : e = .returned (.bool false) := he
            have HF6 : Hid (Fr (fun b => b = bm) w2 w6) := HF5.out.trans (hf6.mono fun _ _ e => e.elim)
            have H6 := Lib.hid (H5.out.nofr hf6)
            have HN6 := Lib.hid (HBM.out _ HF6.out)
            have HFI := Lib.hid (HFS.out _ HN6.out)
            clear hf6 H5
            refine hK.out _ _ ?_ (fun hHeld => ?_)
            · exact HSD.out _ HF6.out
            clear hK K
            try simp only [Act.put, List.setIfInBounds_toArray, List.set_cons_zero, List.set_cons_succ]
            refine wpAnyH_take (i := 14) (oi := ⟨some 37, _, _, _, _, _⟩) (v := ?_) rfl (by kernel_rfl) (by kernel_rfl) (by kernel_rfl) (fun _ _ _ h => h) (Or.inl ⟨by rfl, ?_⟩) (by assumption) ?_
            rotate_left 1
            · (intro w hSw; (try dsimp only at hSw); have k0 := hSw.cell 0; have k1 := hSw.cell 1; have k2 := hSw.cell 2; have k3 := hSw.cell 3; have k4 := hSw.cell 4; have k5 := hSw.cell 5; have k6 := hSw.cell 6; have k7 := hSw.cell 7; have k8 := hSw.cell 8; have k9 := hSw.cell 9; clear hSw; simp only [List.getElem?_toArray, List.getElem?_cons_succ, List.getElem?_cons_zero] at k0 k1 k2 k3 k4 k5 k6 k7 k8 k9; go_simp) <;> (with_reducible rfl)
            try simp only [Act.put, List.setIfInBounds_toArray, List.set_cons_zero, List.set_cons_succ]
            refine wpAnyH_take (i := 15) (oi := ⟨some 38, _, _, _, _, _⟩) (v := ?_) rfl (by kernel_rfl) (by kernel_rfl) (by kernel_rfl) (fun _ _ _ h => h) (Or.inl ⟨by rfl, ?_⟩) (by assumption) ?_
            rotate_left 1
            · (intro w hSw; (try dsimp only at hSw); have k0 := hSw.cell 0; have k1 := hSw.cell 1; have k2 := hSw.cell 2; have k3 := hSw.cell 3; have k4 := hSw.cell 4; have k5 := hSw.cell 5; have k6 := hSw.cell 6; have k7 := hSw.cell 7; have k8 := hSw.cell 8; have k9 := hSw.cell 9; clear hSw; simp only [List.getElem?_toArray, List.getElem?_cons_succ, List.getElem?_cons_zero] at k0 k1 k2 k3 k4 k5 k6 k7 k8 k9; go_simp) <;> (with_reducible rfl)
            try simp only [Act.put, List.setIfInBounds_toArray, List.set_cons_zero, List.set_cons_succ]
            refine wpAnyH_take (i := 16) (oi := ⟨some 39, _, _, _, _, _⟩) (v := undef) rfl (by kernel_rfl) (by kernel_rfl) (by kernel_rfl) (fun _ _ _ h => h) (Or.inr ⟨by rfl, rfl⟩) (by assumption) ?_
            try simp only [Act.put, List.setIfInBounds_toArray, List.set_cons_zero, List.set_cons_succ]
            refine wpAnyH_take (i := 17) (oi := ⟨some 40, _, _, _, _, _⟩) (v := undef) rfl (by kernel_rfl) (by kernel_rfl) (by kernel_rfl) (fun _ _ _ h => h) (Or.inr ⟨by rfl, rfl⟩) (by assumption) ?_
            try simp only [Act.put, List.setIfInBounds_toArray, List.set_cons_zero, List.set_cons_succ]
            refine wpAnyH_take (i := 18) (oi := ⟨some 41, _, _, _, _, _⟩) (v := undef) rfl (by kernel_rfl) (by kernel_rfl) (by kernel_rfl) (fun _ _ _ h => h) (Or.inr ⟨by rfl, rfl⟩) (by assumption) ?_
            try simp only [Act.put, List.setIfInBounds_toArray, List.set_cons_zero, List.set_cons_succ]
            refine wpAnyH_take (i := 19) (oi := ⟨some 42, _, _, _, _, _⟩) (v := ?_) rfl (by kernel_rfl) (by kernel_rfl) (by kernel_rfl) (fun _ _ _ h => h) (Or.inl ⟨by rfl, ?_⟩) (by assumption) ?_
            rotate_left 1
            · (intro w hSw; (try dsimp only at hSw); have k0 := hSw.cell 0; have k1 := hSw.cell 1; have k2 := hSw.cell 2; have k3 := hSw.cell 3; have k4 := hSw.cell 4; have k5 := hSw.cell 5; have k6 := hSw.cell 6; have k7 := hSw.cell 7; have k8 := hSw.cell 8; have k9 := hSw.cell 9; clear hSw; simp only [List.getElem?_toArray, List.getElem?_cons_succ, List.getElem?_cons_zero] at k0 k1 k2 k3 k4 k5 k6 k7 k8 k9; go_simp) <;> (with_reducible rfl)
            try simp only [Act.put, List.setIfInBounds_toArray, List.set_cons_zero, List.set_cons_succ]
            refine wpAnyH_take (i := 20) (oi := ⟨some 43, _, _, _, _, _⟩) (v := ?_) rfl (by kernel_rfl) (by kernel_rfl) (by kernel_rfl) (fun _ _ _ h => h) (Or.inl ⟨by rfl, ?_⟩) (by assumption) ?_
            rotate_left 1
            · (intro w hSw; (try dsimp only at hSw); have k0 := hSw.cell 0; have k1 := hSw.cell 1; have k2 := hSw.cell 2; have k3 := hSw.cell 3; have k4 := hSw.cell 4; have k5 := hSw.cell 5; have k6 := hSw.cell 6; have k7 := hSw.cell 7; have k8 := hSw.cell 8; have k9 := hSw.cell 9; clear hSw; simp only [List.getElem?_toArray, List.getElem?_cons_succ, List.getElem?_cons_zero] at k0 k1 k2 k3 k4 k5 k6 k7 k8 k9; go_simp) <;> (with_reducible rfl)
            try simp only [Act.put, List.setIfInBounds_toArray, List.set_cons_zero, List.set_cons_succ]
            refine wpAnyH_done (by kernel_rfl) ?_ _
            go_wp2_with fail
            go_roundw
            case rel => exact ⟨n + 1, _, by omega, by go_num, Nat.le_trans HS3.out (Nat.succ_le_succ HSL.out), H6, HN6, HMN⟩
            case measure => simp [intOf]; omega
          | true =>
            refine wpAnyH_take (i := 0) (oi := ⟨some 23, _, _, _, _, _⟩) (v := ?_) rfl (by kernel_rfl) (by kernel_rfl) (by kernel_rfl) (fun _ _ _ h => h) (Or.inl ⟨by rfl, ?_⟩) (by assumption) ?_
            rotate_left 1
            · (intro w hSw; (try dsimp only at hSw); have k0 := hSw.cell 0; have k1 := hSw.cell 1; have k2 := hSw.cell 2; have k3 := hSw.cell 3; have k4 := hSw.cell 4; have k5 := hSw.cell 5; have k6 := hSw.cell 6; have k7 := hSw.cell 7; have k8 := hSw.cell 8; have k9 := hSw.cell 9; clear hSw; simp only [List.getElem?_toArray, List.getElem?_cons_succ, List.getElem?_cons_zero] at k0 k1 k2 k3 k4 k5 k6 k7 k8 k9; go_simp) <;> (with_reducible rfl)
            try simp only [Act.put, List.setIfInBounds_toArray, List.set_cons_zero, List.set_cons_succ]
            refine wpAnyH_take (i := 1) (oi := ⟨some 24, _, _, _, _, _⟩) (v := ?_) rfl (by kernel_rfl) (by kernel_rfl) (by kernel_rfl) (fun _ _ _ h => h) (Or.inl ⟨by rfl, ?_⟩) (by assumption) ?_
            rotate_left 1
            · (intro w hSw; (try dsimp only at hSw); have k0 := hSw.cell 0; have k1 := hSw.cell 1; have k2 := hSw.cell 2; have k3 := hSw.cell 3; have k4 := hSw.cell 4; have k5 := hSw.cell 5; have k6 := hSw.cell 6; have k7 := hSw.cell 7; have k8 := hSw.cell 8; have k9 := hSw.cell 9; clear hSw; simp only [List.getElem?_toArray, List.getElem?_cons_succ, List.getElem?_cons_zero] at k0 k1 k2 k3 k4 k5 k6 k7 k8 k9; go_simp) <;> (with_reducible rfl)
            try simp only [Act.put, List.setIfInBounds_toArray, List.set_cons_zero, List.set_cons_succ]
            refine wpAnyH_take (i := 3) (oi := ⟨some 26, _, _, _, _, _⟩) (v := ?_) rfl (by kernel_rfl) (by kernel_rfl) (by kernel_rfl) (fun _ _ _ h => h) (Or.inl ⟨by rfl, ?_⟩) (by assumption) ?_
            rotate_left 1
            · (intro w hSw; (try dsimp only at hSw); have k0 := hSw.cell 0; have k1 := hSw.cell 1; have k2 := hSw.cell 2; have k3 := hSw.cell 3; have k4 := hSw.cell 4; have k5 := hSw.cell 5; have k6 := hSw.cell 6; have k7 := hSw.cell 7; have k8 := hSw.cell 8; have k9 := hSw.cell 9; clear hSw; simp only [List.getElem?_toArray, List.getElem?_cons_succ, List.getElem?_cons_zero] at k0 k1 k2 k3 k4 k5 k6 k7 k8 k9; go_simp) <;> (with_reducible rfl)
            try simp only [Act.put, List.setIfInBounds_toArray, List.set_cons_zero, List.set_cons_succ]
            refine wpAnyH_take (i := 4) (oi := ⟨some 27, _, _, _, _, _⟩) (v := ?_) rfl (by kernel_rfl) (by kernel_rfl) (by kernel_rfl) (fun _ _ _ h => h) (Or.inl ⟨by rfl, ?_⟩) (by assumption) ?_
            rotate_left 1
            · (intro w hSw; (try dsimp only at hSw); have k0 := hSw.cell 0; have k1 := hSw.cell 1; have k2 := hSw.cell 2; have k3 := hSw.cell 3; have k4 := hSw.cell 4; have k5 := hSw.cell 5; have k6 := hSw.cell 6; have k7 := hSw.cell 7; have k8 := hSw.cell 8; have k9 := hSw.cell 9; clear hSw; simp only [List.getElem?_toArray, List.getElem?_cons_succ, List.getElem?_cons_zero] at k0 k1 k2 k3 k4 k5 k6 k7 k8 k9; go_simp) <;> (with_reducible rfl)
            try simp only [Act.put, List.setIfInBounds_toArray, List.set_cons_zero, List.set_cons_succ]
            refine wpAnyH_ready (rs := [2]) (by kernel_rfl) (by simp) ?_
            refine AllReadyH.cons (o := ⟨some 25, _, _, _, _, _⟩) rfl (fun K hK => ?_) AllReadyH.nil
            go_simp
            go_at_call 22
            refine HOR.out.mono ?_
            clear HOR hHeld
            rintro e w3 ⟨he, ⟨s', hs', h3⟩, hf3⟩
            obtain rfl : e = .returned (.bool false) := he
            have HF3 : Hid (Fr (fun b => b = bm) w2 w3) := (Fr.refl _ _).drew.trans hf3
            have HS3 := Lib.hid hs'
            have H3 := Lib.hid h3
            clear hs' h3 hf3
            have HN3 := Lib.hid (HBM.out _ HF3.out)
            have HFI := Lib.hid (HFS.out _ HN3.out)
            clear HN3
            refine hK.out _ _ ?_ (fun hHeld => ?_)
            · exact HSD.out _ HF3.out
            clear hK K
            try simp only [Act.put, List.setIfInBounds_toArray, List.set_cons_zero, List.set_cons_succ]
            refine wpAnyH_ready (rs := [5]) (by kernel_rfl) (by simp) ?_
            refine AllReadyH.cons (o := ⟨some 28, _, _, _, _, _⟩) rfl (fun K hK => ?_) AllReadyH.nil
            go_simp
            go_at_call 23
            refine HFI.out.mono ?_
            clear HFI hHeld
            rintro e w4 ⟨he, hf4⟩
            obtain rfl : e = .returned (.bool false) := he
            have HF4 : Hid (Fr (fun b => b = bm) w2 w4) := HF3.out.trans (hf4.mono fun _ _ e => e.elim)
            have H4 := Lib.hid (H3.out.nofr hf4)
            have HHA := Lib.hid (HHS.out _ _ H4.out)
            clear hf4 H3
            refine hK.out _ _ ?_ (fun hHeld => ?_)
            · exact HSD.out _ HF4.out
            clear hK K
            try simp only [Act.put, List.setIfInBounds_toArray, List.set_cons_zero, List.set_cons_succ]
            refine wpAnyH_take (i := 6) (oi := ⟨some 29, _, _, _, _, _⟩) (v := ?_) rfl (by kernel_rfl) (by kernel_rfl) (by kernel_rfl) (fun _ _ _ h => h) (Or.inl ⟨by rfl, ?_⟩) (by assumption) ?_
            rotate_left 1
            · (intro w hSw; (try dsimp only at hSw); have k0 := hSw.cell 0; have k1 := hSw.cell 1; have k2 := hSw.cell 2; have k3 := hSw.cell 3; have k4 := hSw.cell 4; have k5 := hSw.cell 5; have k6 := hSw.cell 6; have k7 := hSw.cell 7; have k8 := hSw.cell 8; have k9 := hSw.cell 9; clear hSw; simp only [List.getElem?_toArray, List.getElem?_cons_succ, List.getElem?_cons_zero] at k0 k1 k2 k3 k4 k5 k6 k7 k8 k9; go_simp) <;> (with_reducible rfl)
            try simp only [Act.put, List.setIfInBounds_toArray, List.set_cons_zero, List.set_cons_succ]
            refine wpAnyH_take (i := 7) (oi := ⟨some 30, _, _, _, _, _⟩) (v := ?_) rfl (by kernel_rfl) (by kernel_rfl) (by kernel_rfl) (fun _ _ _ h => h) (Or.inl ⟨by rfl, ?_⟩) (by assumption) ?_
            rotate_left 1
            · (intro w hSw; (try dsimp only at hSw); have k0 := hSw.cell 0; have k1 := hSw.cell 1; have k2 := hSw.cell 2; have k3 := hSw.cell 3; have k4 := hSw.cell 4; have k5 := hSw.cell 5; have k6 := hSw.cell 6; have k7 := hSw.cell 7; have k8 := hSw.cell 8; have k9 := hSw.cell 9; clear hSw; simp only [List.getElem?_toArray, List.getElem?_cons_succ, List.getElem?_cons_zero] at k0 k1 k2 k3 k4 k5 k6 k7 k8 k9; go_simp) <;> (with_reducible rfl)
            try simp only [Act.put, List.setIfInBounds_toArray, List.set_cons_zero, List.set_cons_succ]
            refine wpAnyH_take (i := 8) (oi := ⟨some 31, _, _, _, _, _⟩) (v := ?_) rfl (by kernel_rfl) (by kernel_rfl) (by kernel_rfl) (fun _ _ _ h => h) (Or.inl ⟨by rfl, ?_⟩) (by assumption) ?_
            rotate_left 1
            · (intro w hSw; (try dsimp only at hSw); have k0 := hSw.cell 0; have k1 := hSw.cell 1; have k2 := hSw.cell 2; have k3 := hSw.cell 3; have k4 := hSw.cell 4; have k5 := hSw.cell 5; have k6 := hSw.cell 6; have k7 := hSw.cell 7; have k8 := hSw.cell 8; have k9 := hSw.cell 9; clear hSw; simp only [List.getElem?_toArray, List.getElem?_cons_succ, List.getElem?_cons_zero] at k0 k1 k2 k3 k4 k5 k6 k7 k8 k9; go_simp) <;> (with_reducible rfl)
            try simp only [Act.put, List.setIfInBounds_toArray, List.set_cons_zero, List.set_cons_succ]
            refine wpAnyH_take (i := 9) (oi := ⟨some 32, _, _, _, _, _⟩) (v := ?_) rfl (by kernel_rfl) (by kernel_rfl) (by kernel_rfl) (fun _ _ _ h => h) (Or.inl ⟨by rfl, ?_⟩) (by assumption) ?_
            rotate_left 1
            · (intro w hSw; (try dsimp only at hSw); have k0 := hSw.cell 0; have k1 := hSw.cell 1; have k2 := hSw.cell 2; have k3 := hSw.cell 3; have k4 := hSw.cell 4; have k5 := hSw.cell 5; have k6 := hSw.cell 6; have k7 := hSw.cell 7; have k8 := hSw.cell 8; have k9 := hSw.cell 9; clear hSw; simp only [List.getElem?_toArray, List.getElem?_cons_succ, List.getElem?_cons_zero] at k0 k1 k2 k3 k4 k5 k6 k7 k8 k9; go_simp) <;> (with_reducible rfl)
            try simp only [Act.put, List.setIfInBounds_toArray, List.set_cons_zero, List.set_cons_succ]
            refine wpAnyH_take (i := 10) (oi := ⟨some 33, _, _, _, _, _⟩) (v := ?_) rfl (by kernel_rfl) (by kernel_rfl) (by kernel_rfl) (fun _ _ _ h => h) (Or.inl ⟨by rfl, ?_⟩) (by assumption) ?_
            rotate_left 1
            · (intro w hSw; (try dsimp only at hSw); have k0 := hSw.cell 0; have k1 := hSw.cell 1; have k2 := hSw.cell 2; have k3 := hSw.cell 3; have k4 := hSw.cell 4; have k5 := hSw.cell 5; have k6 := hSw.cell 6; have k7 := hSw.cell 7; have k8 := hSw.cell 8; have k9 := hSw.cell 9; clear hSw; simp only [List.getElem?_toArray, List.getElem?_cons_succ, List.getElem?_cons_zero] at k0 k1 k2 k3 k4 k5 k6 k7 k8 k9; go_simp) <;> (with_reducible rfl)
            try simp only [Act.put, List.setIfInBounds_toArray, List.set_cons_zero, List.set_cons_succ]
            refine wpAnyH_take (i := 12) (oi := ⟨some 35, _, _, _, _, _⟩) (v := ?_) rfl (by kernel_rfl) (by kernel_rfl) (by kernel_rfl) (fun _ _ _ h => h) (Or.inl ⟨by rfl, ?_⟩) (by assumption) ?_
            rotate_left 1
            · (intro w hSw; (try dsimp only at hSw); have k0 := hSw.cell 0; have k1 := hSw.cell 1; have k2 := hSw.cell 2; have k3 := hSw.cell 3; have k4 := hSw.cell 4; have k5 := hSw.cell 5; have k6 := hSw.cell 6; have k7 := hSw.cell 7; have k8 := hSw.cell 8; have k9 := hSw.cell 9; clear hSw; simp only [List.getElem?_toArray, List.getElem?_cons_succ, List.getElem?_cons_zero] at k0 k1 k2 k3 k4 k5 k6 k7 k8 k9; go_simp) <;> (with_reducible rfl)
            try simp only [Act.put, List.setIfInBounds_toArray, List.set_cons_zero, List.set_cons_succ]
            refine wpAnyH_ready (rs := [11]) (by kernel_rfl) (by simp) ?_
            refine AllReadyH.cons (o := ⟨some 34, _, _, _, _, _⟩) rfl (fun K hK => ?_) AllReadyH.nil
            go_simp
            go_at_call 16
            refine HHA.out.mono ?_
            clear HHA hHeld
            rintro e w5 ⟨he, hf5⟩
            obtain rfl : e = .returned (.bool true) := he
            have HF5 : Hid (Fr (fun b => b = bm) w2 w5) := HF4.out.trans (hf5.mono fun _ _ e => e.elim)
            have H5 := Lib.hid (H4.out.nofr hf5)
            have HN5 := Lib.hid (HBM.out _ HF5.out)
            have HSI := Lib.hid (HSS.out _ HN5.out)
            clear hf5 H4
            refine hK.out _ _ ?_ (fun hHeld => ?_)
            · exact HSD.out _ HF5.out
            clear hK K
            try simp only [Act.put, List.setIfInBounds_toArray, List.set_cons_zero, List.set_cons_succ]
            refine wpAnyH_ready (rs := [13]) (by kernel_rfl) (by simp) ?_
            refine AllReadyH.cons (o := ⟨some 36, _, _, _, _, _⟩) rfl (fun K hK => ?_) AllReadyH.nil
            go_simp
            go_at_call 24
            refine HSI.out.mono ?_
            clear HSI hHeld HN5
            rintro e w6 ⟨he, hf6⟩
            obtain rfl : e = .returned (.bool false) := he
            have HF6 : Hid (Fr (fun b => b = bm) w2 w6) := HF5.out.trans (hf6.mono fun _ _ e => e.elim)
            have H6 := Lib.hid (H5.out.nofr hf6)
            have HN6 := Lib.hid (HBM.out _ HF6.out)
            have HFI := Lib.hid (HFS.out _ HN6.out)
            clear hf6 H5
            refine hK.out _ _ ?_ (fun hHeld => ?_)
            · exact HSD.out _ HF6.out
            clear hK K
            try simp only [Act.put, List.setIfInBounds_toArray, List.set_cons_zero, List.set_cons_succ]
            refine wpAnyH_take (i := 14) (oi := ⟨some 37, _, _, _, _, _⟩) (v := ?_) rfl (by kernel_rfl) (by kernel_rfl) (by kernel_rfl) (fun _ _ _ h => h) (Or.inl ⟨by rfl, ?_⟩) (by assumption) ?_
            rotate_left 1
            · (intro w hSw; (try dsimp only at hSw); have k0 := hSw.cell 0; have k1 := hSw.cell 1; have k2 := hSw.cell 2; have k3 := hSw.cell 3; have k4 := hSw.cell 4; have k5 := hSw.cell 5; have k6 := hSw.cell 6; have k7 := hSw.cell 7; have k8 := hSw.cell 8; have k9 := hSw.cell 9; clear hSw; simp only [List.getElem?_toArray, List.getElem?_cons_succ, List.getElem?_cons_zero] at k0 k1 k2 k3 k4 k5 k6 k7 k8 k9; go_simp) <;> (with_reducible rfl)
            try simp only [Act.put, List.setIfInBounds_toArray, List.set_cons_zero, List.set_cons_succ]
            refine wpAnyH_take (i := 15) (oi := ⟨some 38, _, _, _, _, _⟩) (v := ?_) rfl (by kernel_rfl) (by kernel_rfl) (by kernel_rfl) (fun _ _ _ h => h) (Or.inl ⟨by rfl, ?_⟩) (by assumption) ?_
            rotate_left 1
            · (intro w hSw; (try dsimp only at hSw); have k0 := hSw.cell 0; have k1 := hSw.cell 1; have k2 := hSw.cell 2; have k3 := hSw.cell 3; have k4 := hSw.cell 4; have k5 := hSw.cell 5; have k6 := hSw.cell 6; have k7 := hSw.cell 7; have k8 := hSw.cell 8; have k9 := hSw.cell 9; clear hSw; simp only [List.getElem?_toArray, List.getElem?_cons_succ, List.getElem?_cons_zero] at k0 k1 k2 k3 k4 k5 k6 k7 k8 k9; go_simp) <;> (with_reducible rfl)
            try simp only [Act.put, List.setIfInBounds_toArray, List.set_cons_zero, List.set_cons_succ]
            refine wpAnyH_take (i := 16) (oi := ⟨some 39, _, _, _, _, _⟩) (v := undef) rfl (by kernel_rfl) (by kernel_rfl) (by kernel_rfl) (fun _ _ _ h => h) (Or.inr ⟨by rfl, rfl⟩) (by assumption) ?_
            try simp only [Act.put, List.setIfInBounds_toArray, List.set_cons_zero, List.set_cons_succ]
            refine wpAnyH_take (i := 17) (oi := ⟨some 40, _, _, _, _, _⟩) (v := undef) rfl (by kernel_rfl) (by kernel_rfl) (by kernel_rfl) (fun _ _ _ h => h) (Or.inr ⟨by rfl, rfl⟩) (by assumption) ?_
            try simp only [Act.put, List.setIfInBounds_toArray, List.set_cons_zero, List.set_cons_succ]
            refine wpAnyH_take (i := 18) (oi := ⟨some 41, _, _, _, _, _⟩) (v := undef) rfl (by kernel_rfl) (by kernel_rfl) (by kernel_rfl) (fun _ _ _ h => h) (Or.inr ⟨by rfl, rfl⟩) (by assumption) ?_
            try simp only [Act.put, List.setIfInBounds_toArray, List.set_cons_zero, List.set_cons_succ]
            refine wpAnyH_take (i := 19) (oi := ⟨some 42, _, _, _, _, _⟩) (v := ?_) rfl (by kernel_rfl) (by kernel_rfl) (by kernel_rfl) (fun _ _ _ h => h) (Or.inl ⟨by rfl, ?_⟩) (by assumption) ?_
            rotate_left 1
            · (intro w hSw; (try dsimp only at hSw); have k0 := hSw.cell 0; have k1 := hSw.cell 1; have k2 := hSw.cell 2; have k3 := hSw.cell 3; have k4 := hSw.cell 4; have k5 := hSw.cell 5; have k6 := hSw.cell 6; have k7 := hSw.cell 7; have k8 := hSw.cell 8; have k9 := hSw.cell 9; clear hSw; simp only [List.getElem?_toArray, List.getElem?_cons_succ, List.getElem?_cons_zero] at k0 k1 k2 k3 k4 k5 k6 k7 k8 k9; go_simp) <;> (with_reducible rfl)
            try simp only [Act.put, List.setIfInBounds_toArray, List.set_cons_zero, List.set_cons_succ]
            refine wpAnyH_take (i := 20) (oi := ⟨some 43, _, _, _, _, _⟩) (v := ?_) rfl (by kernel_rfl) (by kernel_rfl) (by kernel_rfl) (fun _ _ _ h => h) (Or.inl ⟨by rfl, ?_⟩) (by assumption) ?_
            rotate_left 1
            · (intro w hSw; (try dsimp only at hSw); have k0 := hSw.cell 0; have k1 := hSw.cell 1; have k2 := hSw.cell 2; have k3 := hSw.cell 3; have k4 := hSw.cell 4; have k5 := hSw.cell 5; have k6 := hSw.cell 6; have k7 := hSw.cell 7; have k8 := hSw.cell 8; have k9 := hSw.cell 9; clear hSw; simp only [List.getElem?_toArray, List.getElem?_cons_succ, List.getElem?_cons_zero] at k0 k1 k2 k3 k4 k5 k6 k7 k8 k9; go_simp) <;> (with_reducible rfl)
            try simp only [Act.put, List.setIfInBounds_toArray, List.set_cons_zero, List.set_cons_succ]
            refine wpAnyH_done (by kernel_rfl) ?_ _
            go_wp2_with fail
            go_roundw
            case rel => exact ⟨n + 1, _, by omega, by go_num, Nat.le_trans HS3.out (Nat.succ_le_succ HSL.out), H6, HN6, HMN⟩
            case measure => simp [intOf]; omega
        | true =>
          cases mb with
          | false =>
            refine wpAnyH_take (i := 0) (oi := ⟨some 23, _, _, _, _, _⟩) (v := ?_) rfl (by kernel_rfl) (by kernel_rfl) (by kernel_rfl) (fun _ _ _ h => h) (Or.inl ⟨by rfl, ?_⟩) (by assumption) ?_
            rotate_left 1
            · (intro w hSw; (try dsimp only at hSw); have k0 := hSw.cell 0; have k1 := hSw.cell 1; have k2 := hSw.cell 2; have k3 := hSw.cell 3; have k4 := hSw.cell 4; have k5 := hSw.cell 5; have k6 := hSw.cell 6; have k7 := hSw.cell 7; have k8 := hSw.cell 8; have k9 := hSw.cell 9; clear hSw; simp only [List.getElem?_toArray, List.getElem?_cons_succ, List.getElem?_cons_zero] at k0 k1 k2 k3 k4 k5 k6 k7 k8 k9; go_simp) <;> (with_reducible rfl)
            try simp only [Act.put, List.setIfInBounds_toArray, List.set_cons_zero, List.set_cons_succ]
            refine wpAnyH_take (i := 1) (oi := ⟨some 24, _, _, _, _, _⟩) (v := ?_) rfl (by kernel_rfl) (by kernel_rfl) (by kernel_rfl) (fun _ _ _ h => h) (Or.inl ⟨by rfl, ?_⟩) (by assumption) ?_
            rotate_left 1
            · (intro w hSw; (try dsimp only at hSw); have k0 := hSw.cell 0; have k1 := hSw.cell 1; have k2 := hSw.cell 2; have k3 := hSw.cell 3; have k4 := hSw.cell 4; have k5 := hSw.cell 5; have k6 := hSw.cell 6; have k7 := hSw.cell 7; have k8 := hSw.cell 8; have k9 := hSw.cell 9; clear hSw; simp only [List.getElem?_toArray, List.getElem?_cons_succ, List.getElem?_cons_zero] at k0 k1 k2 k3 k4 k5 k6 k7 k8 k9; go_simp) <;> (with_reducible rfl)
            try simp only [Act.put, List.setIfInBounds_toArray, List.set_cons_zero, List.set_cons_succ]
            refine wpAnyH_take (i := 3) (oi := ⟨some 26, _, _, _, _, _⟩) (v := ?_) rfl (by kernel_rfl) (by kernel_rfl) (by kernel_rfl) (fun _ _ _ h => h) (Or.inl ⟨by rfl, ?_⟩) (by assumption) ?_
            rotate_left 1
            · (intro w hSw; (try dsimp only at hSw); have k0 := hSw.cell 0; have k1 := hSw.cell 1; have k2 := hSw.cell 2; have k3 := hSw.cell 3; have k4 := hSw.cell 4; have k5 := hSw.cell 5; have k6 := hSw.cell 6; have k7 := hSw.cell 7; have k8 := hSw.cell 8; have k9 := hSw.cell 9; clear hSw; simp only [List.getElem?_toArray, List.getElem?_cons_succ, List.getElem?_cons_zero] at k0 k1 k2 k3 k4 k5 k6 k7 k8 k9; go_simp) <;> (with_reducible rfl)
            try simp only [Act.put, List.setIfInBounds_toArray, List.set_cons_zero, List.set_cons_succ]
            refine wpAnyH_take (i := 4) (oi := ⟨some 27, _, _, _, _, _⟩) (v := ?_) rfl (by kernel_rfl) (by kernel_rfl) (by kernel_rfl) (fun _ _ _ h => h) (Or.inl ⟨by rfl, ?_⟩) (by assumption) ?_
            rotate_left 1
            · (intro w hSw; (try dsimp only at hSw); have k0 := hSw.cell 0; have k1 := hSw.cell 1; have k2 := hSw.cell 2; have k3 := hSw.cell 3; have k4 := hSw.cell 4; have k5 := hSw.cell 5; have k6 := hSw.cell 6; have k7 := hSw.cell 7; have k8 := hSw.cell 8; have k9 := hSw.cell 9; clear hSw; simp only [List.getElem?_toArray, List.getElem?_cons_succ, List.getElem?_cons_zero] at k0 k1 k2 k3 k4 k5 k6 k7 k8 k9; go_simp) <;> (with_reducible rfl)
            try simp only [Act.put, List.setIfInBounds_toArray, List.set_cons_zero, List.set_cons_succ]
            refine wpAnyH_ready (rs := [2]) (by kernel_rfl) (by simp) ?_
            refine AllReadyH.cons (o := ⟨some 25, _, _, _, _, _⟩) rfl (fun K hK => ?_) AllReadyH.nil
            go_simp
            go_at_call 22
            refine HOR.out.mono ?_
            clear HOR hHeld
            rintro e w3 ⟨he, ⟨s', hs', h3⟩, hf3⟩
            obtain rfl : e = .returned (.bool false) := he
            have HF3 : Hid (Fr (fun b => b = bm) w2 w3) := (Fr.refl _ _).drew.trans hf3
            have HS3 := Lib.hid hs'
            have H3 := Lib.hid h3
            clear hs' h3 hf3
            have HN3 := Lib.hid (HBM.out _ HF3.out)
            have HFI := Lib.hid (HFS.out _ HN3.out)
            clear HN3
            refine hK.out _ _ ?_ (fun hHeld => ?_)
            · exact HSD.out _ HF3.out
            clear hK K
            try simp only [Act.put, List.setIfInBounds_toArray, List.set_cons_zero, List.set_cons_succ]
            refine wpAnyH_ready (rs := [5]) (by kernel_rfl) (by simp) ?_
            refine AllReadyH.cons (o := ⟨some 28, _, _, _, _, _⟩) rfl (fun K hK => ?_) AllReadyH.nil
            go_simp
            go_at_call 23
            refine HFI.out.mono ?_
            clear HFI hHeld
            rintro e w4 ⟨he, hf4⟩
            obtain rfl : e = .returned (.bool false) := he
            have HF4 : Hid (Fr (fun b => b = bm) w2 w4) := HF3.out.trans (hf4.mono fun _ _ e => e.elim)
            have H4 := Lib.hid (H3.out.nofr hf4)
            have HHA := Lib.hid (HHS.out _ _ H4.out)
            clear hf4 H3
            refine hK.out _ _ ?_ (fun hHeld => ?_)
            · exact HSD.out _ HF4.out
            clear hK K
            try simp only [Act.put, List.setIfInBounds_toArray, List.set_cons_zero, List.set_cons_succ]
            refine wpAnyH_take (i := 6) (oi := ⟨some 29, _, _, _, _, _⟩) (v := ?_) rfl (by kernel_rfl) (by kernel_rfl) (by kernel_rfl) (fun _ _ _ h => h) (Or.inl ⟨by rfl, ?_⟩) (by assumption) ?_
            rotate_left 1
            · (intro w hSw; (try dsimp only at hSw); have k0 := hSw.cell 0; have k1 := hSw.cell 1; have k2 := hSw.cell 2; have k3 := hSw.cell 3; have k4 := hSw.cell 4; have k5 := hSw.cell 5; have k6 := hSw.cell 6; have k7 := hSw.cell 7; have k8 := hSw.cell 8; have k9 := hSw.cell 9; clear hSw; simp only [List.getElem?_toArray, List.getElem?_cons_succ, List.getElem?_cons_zero] at k0 k1 k2 k3 k4 k5 k6 k7 k8 k9; go_simp) <;> (with_reducible rfl)
            try simp only [Act.put, List.setIfInBounds_toArray, List.set_cons_zero, List.set_cons_succ]
            refine wpAnyH_take (i := 7) (oi := ⟨some 30, _, _, _, _, _⟩) (v := ?_) rfl (by kernel_rfl) (by kernel_rfl) (by kernel_rfl) (fun _ _ _ h => h) (Or.inl ⟨by rfl, ?_⟩) (by assumption) ?_
            rotate_left 1
            · (intro w hSw; (try dsimp only at hSw); have k0 := hSw.cell 0; have k1 := hSw.cell 1; have k2 := hSw.cell 2; have k3 := hSw.cell 3; have k4 := hSw.cell 4; have k5 := hSw.cell 5; have k6 := hSw.cell 6; have k7 := hSw.cell 7; have k8 := hSw.cell 8; have k9 := hSw.cell 9; clear hSw; simp only [List.getElem?_toArray, List.getElem?_cons_succ, List.getElem?_cons_zero] at k0 k1 k2 k3 k4 k5 k6 k7 k8 k9; go_simp) <;> (with_reducible rfl)
            try simp only [Act.put, List.setIfInBounds_toArray, List.set_cons_zero, List.set_cons_succ]
            refine wpAnyH_take (i := 8) (oi := ⟨some 31, _, _, _, _, _⟩) (v := ?_) rfl (by kernel_rfl) (by kernel_rfl) (by kernel_rfl) (fun _ _ _ h => h) (Or.inl ⟨by rfl, ?_⟩) (by assumption) ?_
            rotate_left 1
            · (intro w hSw; (try dsimp only at hSw); have k0 := hSw.cell 0; have k1 := hSw.cell 1; have k2 := hSw.cell 2; have k3 := hSw.cell 3; have k4 := hSw.cell 4; have k5 := hSw.cell 5; have k6 := hSw.cell 6; have k7 := hSw.cell 7; have k8 := hSw.cell 8; have k9 := hSw.cell 9; clear hSw; simp only [List.getElem?_toArray, List.getElem?_cons_succ, List.getElem?_cons_zero] at k0 k1 k2 k3 k4 k5 k6 k7 k8 k9; go_simp) <;> (with_reducible rfl)
            try simp only [Act.put, List.setIfInBounds_toArray, List.set_cons_zero, List.set_cons_succ]
            refine wpAnyH_take (i := 9) (oi := ⟨some 32, _, _, _, _, _⟩) (v := ?_) rfl (by kernel_rfl) (by kernel_rfl) (by kernel_rfl) (fun _ _ _ h => h) (Or.inl ⟨by rfl, ?_⟩) (by assumption) ?_
            rotate_left 1
            · (intro w hSw; (try dsimp only at hSw); have k0 := hSw.cell 0; have k1 := hSw.cell 1; have k2 := hSw.cell 2; have k3 := hSw.cell 3; have k4 := hSw.cell 4; have k5 := hSw.cell 5; have k6 := hSw.cell 6; have k7 := hSw.cell 7; have k8 := hSw.cell 8; have k9 := hSw.cell 9; clear hSw; simp only [List.getElem?_toArray, List.getElem?_cons_succ, List.getElem?_cons_zero] at k0 k1 k2 k3 k4 k5 k6 k7 k8 k9; go_simp) <;> (with_reducible rfl)
            try simp only [Act.put, List.setIfInBounds_toArray, List.set_cons_zero, List.set_cons_succ]
            refine wpAnyH_take (i := 10) (oi := ⟨some 33, _, _, _, _, _⟩) (v := ?_) rfl (by kernel_rfl) (by kernel_rfl) (by kernel_rfl) (fun _ _ _ h => h) (Or.inl ⟨by rfl, ?_⟩) (by assumption) ?_
            rotate_left 1
            · (intro w hSw; (try dsimp only at hSw); have k0 := hSw.cell 0; have k1 := hSw.cell 1; have k2 := hSw.cell 2; have k3 := hSw.cell 3; have k4 := hSw.cell 4; have k5 := hSw.cell 5; have k6 := hSw.cell 6; have k7 := hSw.cell 7; have k8 := hSw.cell 8; have k9 := hSw.cell 9; clear hSw; simp only [List.getElem?_toArray, List.getElem?_cons_succ, List.getElem?_cons_zero] at k0 k1 k2 k3 k4 k5 k6 k7 k8 k9; go_simp) <;> (with_reducible rfl)
            try simp only [Act.put, List.setIfInBounds_toArray, List.set_cons_zero, List.set_cons_succ]
            refine wpAnyH_take (i := 12) (oi := ⟨some 35, _, _, _, _, _⟩) (v := ?_) rfl (by kernel_rfl) (by kernel_rfl) (by kernel_rfl) (fun _ _ _ h => h) (Or.inl ⟨by rfl, ?_⟩) (by assumption) ?_
            rotate_left 1
            · (intro w hSw; (try dsimp only at hSw); have k0 := hSw.cell 0; have k1 := hSw.cell 1; have k2 := hSw.cell 2; have k3 := hSw.cell 3; have k4 := hSw.cell 4; have k5 := hSw.cell 5; have k6 := hSw.cell 6; have k7 := hSw.cell 7; have k8 := hSw.cell 8; have k9 := hSw.cell 9; clear hSw; simp only [List.getElem?_toArray, List.getElem?_cons_succ, List.getElem?_cons_zero] at k0 k1 k2 k3 k4 k5 k6 k7 k8 k9; go_simp) <;> (with_reducible rfl)
            try simp only [Act.put, List.setIfInBounds_toArray, List.set_cons_zero, List.set_cons_succ]
            refine wpAnyH_ready (rs := [11]) (by kernel_rfl) (by simp) ?_
            refine AllReadyH.cons (o := ⟨some 34, _, _, _, _, _⟩) rfl (fun K hK => ?_) AllReadyH.nil
            go_simp
            go_at_call 16
            refine HHA.out.mono ?_
            clear HHA hHeld
            rintro e w5 ⟨he, hf5⟩
            obtain rfl : e = .returned (.bool false) := he
            have HF5 : Hid (Fr (fun b => b = bm) w2 w5) := HF4.out.trans (hf5.mono fun _ _ e => e.elim)
            have H5 := Lib.hid (H4.out.nofr hf5)
            have HN5 := Lib.hid (HBM.out _ HF5.out)
            have HSI := Lib.hid (HSS.out _ HN5.out)
            clear hf5 H4
            refine hK.out _ _ ?_ (fun hHeld => ?_)
            · exact HSD.out _ HF5.out
            clear hK K
            try simp only [Act.put, List.setIfInBounds_toArray, List.set_cons_zero, List.set_cons_succ]
            refine wpAnyH_ready (rs := [13]) (by kernel_rfl) (by simp) ?_
            refine AllReadyH.cons (o := ⟨some 36, _, _, _, _, _⟩) rfl (fun K hK => ?_) AllReadyH.nil
            go_simp
            go_at_call 24
            refine HSI.out.mono ?_
            clear HSI hHeld HN5
            rintro e w6 ⟨he, hf6⟩
            obtain rfl : e = .returned (.bool true) := he
            have HF6 : Hid (Fr (fun b => b = bm) w2 w6) := HF5.out.trans (hf6.mono fun _ _ e => e.elim)
            have H6 := Lib.hid (H5.out.nofr hf6)
            have HN6 := Lib.hid (HBM.out _ HF6.out)
            have HFI := Lib.hid (HFS.out _ HN6.out)
            clear hf6 H5
            refine hK.out _ _ ?_ (fun hHeld => ?_)
            · exact HSD.out _ HF6.out
            clear hK K
            try simp only [Act.put, List.setIfInBounds_toArray, List.set_cons_zero, List.set_cons_succ]
            refine wpAnyH_take (i := 14) (oi := ⟨some 37, _, _, _, _, _⟩) (v := ?_) rfl (by kernel_rfl) (by kernel_rfl) (by kernel_rfl) (fun _ _ _ h => h) (Or.inl ⟨by rfl, ?_⟩) (by assumption) ?_
            rotate_left 1
            · (intro w hSw; (try dsimp only at hSw); have k0 := hSw.cell 0; have k1 := hSw.cell 1; have k2 := hSw.cell 2; have k3 := hSw.cell 3; have k4 := hSw.cell 4; have k5 := hSw.cell 5; have k6 := hSw.cell 6; have k7 := hSw.cell 7; have k8 := hSw.cell 8; have k9 := hSw.cell 9; clear hSw; simp only [List.getElem?_toArray, List.getElem?_cons_succ, List.getElem?_cons_zero] at k0 k1 k2 k3 k4 k5 k6 k7 k8 k9; go_simp) <;> (with_reducible rfl)
            try simp only [Act.put, List.setIfInBounds_toArray, List.set_cons_zero, List.set_cons_succ]
            refine wpAnyH_take (i := 15) (oi := ⟨some 38, _, _, _, _, _⟩) (v := ?_) rfl (by kernel_rfl) (by kernel_rfl) (by kernel_rfl) (fun _ _ _ h => h) (Or.inl ⟨by rfl, ?_⟩) (by assumption) ?_
            rotate_left 1
            · (intro w hSw; (try dsimp only at hSw); have k0 := hSw.cell 0; have k1 := hSw.cell 1; have k2 := hSw.cell 2; have k3 := hSw.cell 3; have k4 := hSw.cell 4; have k5 := hSw.cell 5; have k6 := hSw.cell 6; have k7 := hSw.cell 7; have k8 := hSw.cell 8; have k9 := hSw.cell 9; clear hSw; simp only [List.getElem?_toArray, List.getElem?_cons_succ, List.getElem?_cons_zero] at k0 k1 k2 k3 k4 k5 k6 k7 k8 k9; go_simp) <;> (with_reducible rfl)
            try simp only [Act.put, List.setIfInBounds_toArray, List.set_cons_zero, List.set_cons_succ]
            refine wpAnyH_take (i := 16) (oi := ⟨some 39, _, _, _, _, _⟩) (v := undef) rfl (by kernel_rfl) (by kernel_rfl) (by kernel_rfl) (fun _ _ _ h => h) (Or.inr ⟨by rfl, rfl⟩) (by assumption) ?_
            try simp only [Act.put, List.setIfInBounds_toArray, List.set_cons_zero, List.set_cons_succ]
            refine wpAnyH_take (i := 17) (oi := ⟨some 40, _, _, _, _, _⟩) (v := undef) rfl (by kernel_rfl) (by kernel_rfl) (by kernel_rfl) (fun _ _ _ h => h) (Or.inr ⟨by rfl, rfl⟩) (by assumption) ?_
            try simp only [Act.put, List.setIfInBounds_toArray, List.set_cons_zero, List.set_cons_succ]
            refine wpAnyH_take (i := 18) (oi := ⟨some 41, _, _, _, _, _⟩) (v := undef) rfl (by kernel_rfl) (by kernel_rfl) (by kernel_rfl) (fun _ _ _ h => h) (Or.inr ⟨by rfl, rfl⟩) (by assumption) ?_
            try simp only [Act.put, List.setIfInBounds_toArray, List.set_cons_zero, List.set_cons_succ]
            refine wpAnyH_take (i := 19) (oi := ⟨some 42, _, _, _, _, _⟩) (v := ?_) rfl (by kernel_rfl) (by kernel_rfl) (by kernel_rfl) (fun _ _ _ h => h) (Or.inl ⟨by rfl, ?_⟩) (by assumption) ?_
            rotate_left 1
            · (intro w hSw; (try dsimp only at hSw); have k0 := hSw.cell 0; have k1 := hSw.cell 1; have k2 := hSw.cell 2; have k3 := hSw.cell 3; have k4 := hSw.cell 4; have k5 := hSw.cell 5; have k6 := hSw.cell 6; have k7 := hSw.cell 7; have k8 := hSw.cell 8; have k9 := hSw.cell 9; clear hSw; simp only [List.getElem?_toArray, List.getElem?_cons_succ, List.getElem?_cons_zero] at k0 k1 k2 k3 k4 k5 k6 k7 k8 k9; go_simp) <;> (with_reducible rfl)
            try simp only [Act.put, List.setIfInBounds_toArray, List.set_cons_zero, List.set_cons_succ]
            refine wpAnyH_take (i := 20) (oi := ⟨some 43, _, _, _, _, _⟩) (v := ?_) rfl (by kernel_rfl) (by kernel_rfl) (by kernel_rfl) (fun _ _ _ h => h) (Or.inl ⟨by rfl, ?_⟩) (by assumption) ?_
            rotate_left 1
            · (intro w hSw; (try dsimp only at hSw); have k0 := hSw.cell 0; have k1 := hSw.cell 1; have k2 := hSw.cell 2; have k3 := hSw.cell 3; have k4 := hSw.cell 4; have k5 := hSw.cell 5; have k6 := hSw.cell 6; have k7 := hSw.cell 7; have k8 := hSw.cell 8; have k9 := hSw.cell 9; clear hSw; simp only [List.getElem?_toArray, List.getElem?_cons_succ, List.getElem?_cons_zero] at k0 k1 k2 k3 k4 k5 k6 k7 k8 k9; go_simp) <;> (with_reducible rfl)
            try simp only [Act.put, List.setIfInBounds_toArray, List.set_cons_zero, List.set_cons_succ]
            refine wpAnyH_done (by kernel_rfl) ?_ _
            go_wp2_with fail
            go_roundw
            case rel => exact ⟨n + 1, _, by omega, by go_num, Nat.le_trans HS3.out (Nat.succ_le_succ HSL.out), H6, HN6, HMN⟩
            case measure => simp [intOf]; omega
          | true =>
            refine wpAnyH_take (i := 0) (oi := ⟨some 23, _, _, _, _, _⟩) (v := ?_) rfl (by kernel_rfl) (by kernel_rfl) (by kernel_rfl) (fun _ _ _ h => h) (Or.inl ⟨by rfl, ?_⟩) (by assumption) ?_
            rotate_left 1
            · (intro w hSw; (try dsimp only at hSw); have k0 := hSw.cell 0; have k1 := hSw.cell 1; have k2 := hSw.cell 2; have k3 := hSw.cell 3; have k4 := hSw.cell 4; have k5 := hSw.cell 5; have k6 := hSw.cell 6; have k7 := hSw.cell 7; have k8 := hSw.cell 8; have k9 := hSw.cell 9; clear hSw; simp only [List.getElem?_toArray, List.getElem?_cons_succ, List.getElem?_cons_zero] at k0 k1 k2 k3 k4 k5 k6 k7 k8 k9; go_simp) <;> (with_reducible rfl)
            try simp only [Act.put, List.setIfInBounds_toArray, List.set_cons_zero, List.set_cons_succ]
            refine wpAnyH_take (i := 1) (oi := ⟨some 24, _, _, _, _, _⟩) (v := ?_) rfl (by kernel_rfl) (by kernel_rfl) (by kernel_rfl) (fun _ _ _ h => h) (Or.inl ⟨by rfl, ?_⟩) (by assumption) ?_
            rotate_left 1
            · (intro w hSw; (try dsimp only at hSw); have k0 := hSw.cell 0; have k1 := hSw.cell 1; have k2 := hSw.cell 2; have k3 := hSw.cell 3; have k4 := hSw.cell 4; have k5 := hSw.cell 5; have k6 := hSw.cell 6; have k7 := hSw.cell 7; have k8 := hSw.cell 8; have k9 := hSw.cell 9; clear hSw; simp only [List.getElem?_toArray, List.getElem?_cons_succ, List.getElem?_cons_zero] at k0 k1 k2 k3 k4 k5 k6 k7 k8 k9; go_simp) <;> (with_reducible rfl)
            try simp only [Act.put, List.setIfInBounds_toArray, List.set_cons_zero, List.set_cons_succ]
            refine wpAnyH_take (i := 3) (oi := ⟨some 26, _, _, _, _, _⟩) (v := ?_) rfl (by kernel_rfl) (by kernel_rfl) (by kernel_rfl) (fun _ _ _ h => h) (Or.inl ⟨by rfl, ?_⟩) (by assumption) ?_
            rotate_left 1
            · (intro w hSw; (try dsimp only at hSw); have k0 := hSw.cell 0; have k1 := hSw.cell 1; have k2 := hSw.cell 2; have k3 := hSw.cell 3; have k4 := hSw.cell 4; have k5 := hSw.cell 5; have k6 := hSw.cell 6; have k7 := hSw.cell 7; have k8 := hSw.cell 8; have k9 := hSw.cell 9; clear hSw; simp only [List.getElem?_toArray, List.getElem?_cons_succ, List.getElem?_cons_zero] at k0 k1 k2 k3 k4 k5 k6 k7 k8 k9; go_simp) <;> (with_reducible rfl)
            try simp only [Act.put, List.setIfInBounds_toArray, List.set_cons_zero, List.set_cons_succ]
            refine wpAnyH_take (i := 4) (oi := ⟨some 27, _, _, _, _, _⟩) (v := ?_) rfl (by kernel_rfl) (by kernel_rfl) (by kernel_rfl) (fun _ _ _ h => h) (Or.inl ⟨by rfl, ?_⟩) (by assumption) ?_
            rotate_left 1
            · (intro w hSw; (try dsimp only at hSw); have k0 := hSw.cell 0; have k1 := hSw.cell 1; have k2 := hSw.cell 2; have k3 := hSw.cell 3; have k4 := hSw.cell 4; have k5 := hSw.cell 5; have k6 := hSw.cell 6; have k7 := hSw.cell 7; have k8 := hSw.cell 8; have k9 := hSw.cell 9; clear hSw; simp only [List.getElem?_toArray, List.getElem?_cons_succ, List.getElem?_cons_zero] at k0 k1 k2 k3 k4 k5 k6 k7 k8 k9; go_simp) <;> (with_reducible rfl)
            try simp only [Act.put, List.setIfInBounds_toArray, List.set_cons_zero, List.set_cons_succ]
            refine wpAnyH_ready (rs := [2]) (by kernel_rfl) (by simp) ?_
            refine AllReadyH.cons (o := ⟨some 25, _, _, _, _, _⟩) rfl (fun K hK => ?_) AllReadyH.nil
            go_simp
            go_at_call 22
            refine HOR.out.mono ?_
            clear HOR hHeld
            rintro e w3 ⟨he, ⟨s', hs', h3⟩, hf3⟩
            obtain rfl : e = .returned (.bool false) := he
            have HF3 : Hid (Fr (fun b => b = bm) w2 w3) := (Fr.refl _ _).drew.trans hf3
            have HS3 := Lib.hid hs'
            have H3 := Lib.hid h3
            clear hs' h3 hf3
            have HN3 := Lib.hid (HBM.out _ HF3.out)
            have HFI := Lib.hid (HFS.out _ HN3.out)
            clear HN3
            refine hK.out _ _ ?_ (fun hHeld => ?_)
            · exact HSD.out _ HF3.out
            clear hK K
            try simp only [Act.put, List.setIfInBounds_toArray, List.set_cons_zero, List.set_cons_succ]
            refine wpAnyH_ready (rs := [5]) (by kernel_rfl) (by simp) ?_
            refine AllReadyH.cons (o := ⟨some 28, _, _, _, _, _⟩) rfl (fun K hK => ?_) AllReadyH.nil
            go_simp
            go_at_call 23
            refine HFI.out.mono ?_
            clear HFI hHeld
            rintro e w4 ⟨he, hf4⟩
            obtain rfl : e = .returned (.bool false) := he
            have HF4 : Hid (Fr (fun b => b = bm) w2 w4) := HF3.out.trans (hf4.mono fun _ _ e => e.elim)
            have H4 := Lib.hid (H3.out.nofr hf4)
            have HHA := Lib.hid (HHS.out _ _ H4.out)
            clear hf4 H3
            refine hK.out _ _ ?_ (fun hHeld => ?_)
            · exact HSD.out _ HF4.out
            clear hK K
            try simp only [Act.put, List.setIfInBounds_toArray, List.set_cons_zero, List.set_cons_succ]
            refine wpAnyH_take (i := 6) (oi := ⟨some 29, _, _, _, _, _⟩) (v := ?_) rfl (by kernel_rfl) (by kernel_rfl) (by kernel_rfl) (fun _ _ _ h => h) (Or.inl ⟨by rfl, ?_⟩) (by assumption) ?_
            rotate_left 1
            · (intro w hSw; (try dsimp only at hSw); have k0 := hSw.cell 0; have k1 := hSw.cell 1; have k2 := hSw.cell 2; have k3 := hSw.cell 3; have k4 := hSw.cell 4; have k5 := hSw.cell 5; have k6 := hSw.cell 6; have k7 := hSw.cell 7; have k8 := hSw.cell 8; have k9 := hSw.cell 9; clear hSw; simp only [List.getElem?_toArray, List.getElem?_cons_succ, List.getElem?_cons_zero] at k0 k1 k2 k3 k4 k5 k6 k7 k8 k9; go_simp) <;> (with_reducible rfl)
            try simp only [Act.put, List.setIfInBounds_toArray, List.set_cons_zero, List.set_cons_succ]
            refine wpAnyH_take (i := 7) (oi := ⟨some 30, _, _, _, _, _⟩) (v := ?_) rfl (by kernel_rfl) (by kernel_rfl) (by kernel_rfl) (fun _ _ _ h => h) (Or.inl ⟨by rfl, ?_⟩) (by assumption) ?_
            rotate_left 1
            · (intro w hSw; (try dsimp only at hSw); have k0 := hSw.cell 0; have k1 := hSw.cell 1; have k2 := hSw.cell 2; have k3 := hSw.cell 3; have k4 := hSw.cell 4; have k5 := hSw.cell 5; have k6 := hSw.cell 6; have k7 := hSw.cell 7; have k8 := hSw.cell 8; have k9 := hSw.cell 9; clear hSw; simp only [List.getElem?_toArray, List.getElem?_cons_succ, List.getElem?_cons_zero] at k0 k1 k2 k3 k4 k5 k6 k7 k8 k9; go_simp) <;> (with_reducible rfl)
            try simp only [Act.put, List.setIfInBounds_toArray, List.set_cons_zero, List.set_cons_succ]
            refine wpAnyH_take (i := 8) (oi := ⟨some 31, _, _, _, _, _⟩) (v := ?_) rfl (by kernel_rfl) (by kernel_rfl) (by kernel_rfl) (fun _ _ _ h => h) (Or.inl ⟨by rfl, ?_⟩) (by assumption) ?_
            rotate_left 1
            · (intro w hSw; (try dsimp only at hSw); have k0 := hSw.cell 0; have k1 := hSw.cell 1; have k2 := hSw.cell 2; have k3 := hSw.cell 3; have k4 := hSw.cell 4; have k5 := hSw.cell 5; have k6 := hSw.cell 6; have k7 := hSw.cell 7; have k8 := hSw.cell 8; have k9 := hSw.cell 9; clear hSw; simp only [List.getElem?_toArray, List.getElem?_cons_succ, List.getElem?_cons_zero] at k0 k1 k2 k3 k4 k5 k6 k7 k8 k9; go_simp) <;> (with_reducible rfl)
            try simp only [Act.put, List.setIfInBounds_toArray, List.set_cons_zero, List.set_cons_succ]
            refine wpAnyH_take (i := 9) (oi := ⟨some 32, _, _, _, _, _⟩) (v := ?_) rfl (by kernel_rfl) (by kernel_rfl) (by kernel_rfl) (fun _ _ _ h => h) (Or.inl ⟨by rfl, ?_⟩) (by assumption) ?_
            rotate_left 1
            · (intro w hSw; (try dsimp only at hSw); have k0 := hSw.cell 0; have k1 := hSw.cell 1; have k2 := hSw.cell 2; have k3 := hSw.cell 3; have k4 := hSw.cell 4; have k5 := hSw.cell 5; have k6 := hSw.cell 6; have k7 := hSw.cell 7; have k8 := hSw.cell 8; have k9 := hSw.cell 9; clear hSw; simp only [List.getElem?_toArray, List.getElem?_cons_succ, List.getElem?_cons_zero] at k0 k1 k2 k3 k4 k5 k6 k7 k8 k9; go_simp) <;> (with_reducible rfl)
            try simp only [Act.put, List.setIfInBounds_toArray, List.set_cons_zero, List.set_cons_succ]
            refine wpAnyH_take (i := 10) (oi := ⟨some 33, _, _, _, _, _⟩) (v := ?_) rfl (by kernel_rfl) (by kernel_rfl) (by kernel_rfl) (fun _ _ _ h => h) (Or.inl ⟨by rfl, ?_⟩) (by assumption) ?_
            rotate_left 1
            · (intro w hSw; (try dsimp only at hSw); have k0 := hSw.cell 0; have k1 := hSw.cell 1; have k2 := hSw.cell 2; have k3 := hSw.cell 3; have k4 := hSw.cell 4; have k5 := hSw.cell 5; have k6 := hSw.cell 6; have k7 := hSw.cell 7; have k8 := hSw.cell 8; have k9 := hSw.cell 9; clear hSw; simp only [List.getElem?_toArray, List.getElem?_cons_succ, List.getElem?_cons_zero] at k0 k1 k2 k3 k4 k5 k6 k7 k8 k9; go_simp) <;> (with_reducible rfl)
            try simp only [Act.put, List.setIfInBounds_toArray, List.set_cons_zero, List.set_cons_succ]
            refine wpAnyH_take (i := 12) (oi := ⟨some 35, _, _, _, _, _⟩) (v := ?_) rfl (by kernel_rfl) (by kernel_rfl) (by kernel_rfl) (fun _ _ _ h => h) (Or.inl ⟨by rfl, ?_⟩) (by assumption) ?_
            rotate_left 1
            · (intro w hSw; (try dsimp only at hSw); have k0 := hSw.cell 0; have k1 := hSw.cell 1; have k2 := hSw.cell 2; have k3 := hSw.cell 3; have k4 := hSw.cell 4; have k5 := hSw.cell 5; have k6 := hSw.cell 6; have k7 := hSw.cell 7; have k8 := hSw.cell 8; have k9 := hSw.cell 9; clear hSw; simp only [List.getElem?_toArray, List.getElem?_cons_succ, List.getElem?_cons_zero] at k0 k1 k2 k3 k4 k5 k6 k7 k8 k9; go_simp) <;> (with_reducible rfl)
            try simp only [Act.put, List.setIfInBounds_toArray, List.set_cons_zero, List.set_cons_succ]
            refine wpAnyH_ready (rs := [11]) (by kernel_rfl) (by simp) ?_
            refine AllReadyH.cons (o := ⟨some 34, _, _, _, _, _⟩) rfl (fun K hK => ?_) AllReadyH.nil
            go_simp
            go_at_call 16
            refine HHA.out.mono ?_
            clear HHA hHeld
            rintro e w5 ⟨he, hf5⟩
            obtain rfl : e = .returned (.bool true) := he
            have HF5 : Hid (Fr (fun b => b = bm) w2 w5) := HF4.out.trans (hf5.mono fun _ _ e => e.elim)
            have H5 := Lib.hid (H4.out.nofr hf5)
            have HN5 := Lib.hid (HBM.out _ HF5.out)
            have HSI := Lib.hid (HSS.out _ HN5.out)
            clear hf5 H4
            refine hK.out _ _ ?_ (fun hHeld => ?_)
            · exact HSD.out _ HF5.out
            clear hK K
            try simp only [Act.put, List.setIfInBounds_toArray, List.set_cons_zero, List.set_cons_succ]
            refine wpAnyH_ready (rs := [13]) (by kernel_rfl) (by simp) ?_
            refine AllReadyH.cons (o := ⟨some 36, _, _, _, _, _⟩) rfl (fun K hK => ?_) AllReadyH.nil
            go_simp
            go_at_call 24
            refine HSI.out.mono ?_
            clear HSI hHeld HN5
            rintro e w6 ⟨he, hf6⟩
            obtain rfl : e = .returned (.bool true) := he
            have HF6 : Hid (Fr (fun b => b = bm) w2 w6) := HF5.out.trans (hf6.mono fun _ _ e => e.elim)
            have H6 := Lib.hid (H5.out.nofr hf6)
            have HN6 := Lib.hid (HBM.out _ HF6.out)
            have HFI := Lib.hid (HFS.out _ HN6.out)
            clear hf6 H5
            refine hK.out _ _ ?_ (fun hHeld => ?_)
            · exact HSD.out _ HF6.out
            clear hK K
            try simp only [Act.put, List.setIfInBounds_toArray, List.set_cons_zero, List.set_cons_succ]
            refine wpAnyH_take (i := 14) (oi := ⟨some 37, _, _, _, _, _⟩) (v := ?_) rfl (by kernel_rfl) (by kernel_rfl) (by kernel_rfl) (fun _ _ _ h => h) (Or.inl ⟨by rfl, ?_⟩) (by assumption) ?_
            rotate_left 1
            · (intro w hSw; (try dsimp only at hSw); have k0 := hSw.cell 0; have k1 := hSw.cell 1; have k2 := hSw.cell 2; have k3 := hSw.cell 3; have k4 := hSw.cell 4; have k5 := hSw.cell 5; have k6 := hSw.cell 6; have k7 := hSw.cell 7; have k8 := hSw.cell 8; have k9 := hSw.cell 9; clear hSw; simp only [List.getElem?_toArray, List.getElem?_cons_succ, List.getElem?_cons_zero] at k0 k1 k2 k3 k4 k5 k6 k7 k8 k9; go_simp) <;> (with_reducible rfl)
            try simp only [Act.put, List.setIfInBounds_toArray, List.set_cons_zero, List.set_cons_succ]
            refine wpAnyH_take (i := 15) (oi := ⟨some 38, _, _, _, _, _⟩) (v := ?_) rfl (by kernel_rfl) (by kernel_rfl) (by kernel_rfl) (fun _ _ _ h => h) (Or.inl ⟨by rfl, ?_⟩) (by assumption) ?_
            rotate_left 1
            · (intro w hSw; (try dsimp only at hSw); have k0 := hSw.cell 0; have k1 := hSw.cell 1; have k2 := hSw.cell 2; have k3 := hSw.cell 3; have k4 := hSw.cell 4; have k5 := hSw.cell 5; have k6 := hSw.cell 6; have k7 := hSw.cell 7; have k8 := hSw.cell 8; have k9 := hSw.cell 9; clear hSw; simp only [List.getElem?_toArray, List.getElem?_cons_succ, List.getElem?_cons_zero] at k0 k1 k2 k3 k4 k5 k6 k7 k8 k9; go_simp) <;> (with_reducible rfl)
            try simp only [Act.put, List.setIfInBounds_toArray, List.set_cons_zero, List.set_cons_succ]
            refine wpAnyH_take (i := 16) (oi := ⟨some 39, _, _, _, _, _⟩) (v := ?_) rfl (by kernel_rfl) (by kernel_rfl) (by kernel_rfl) (fun _ _ _ h => h) (Or.inl ⟨by rfl, ?_⟩) (by assumption) ?_
            rotate_left 1
            · (intro w hSw; (try dsimp only at hSw); have k0 := hSw.cell 0; have k1 := hSw.cell 1; have k2 := hSw.cell 2; have k3 := hSw.cell 3; have k4 := hSw.cell 4; have k5 := hSw.cell 5; have k6 := hSw.cell 6; have k7 := hSw.cell 7; have k8 := hSw.cell 8; have k9 := hSw.cell 9; clear hSw; simp only [List.getElem?_toArray, List.getElem?_cons_succ, List.getElem?_cons_zero] at k0 k1 k2 k3 k4 k5 k6 k7 k8 k9; go_simp) <;> (with_reducible rfl)
            try simp only [Act.put, List.setIfInBounds_toArray, List.set_cons_zero, List.set_cons_succ]
            refine wpAnyH_take (i := 17) (oi := ⟨some 40, _, _, _, _, _⟩) (v := ?_) rfl (by kernel_rfl) (by kernel_rfl) (by kernel_rfl) (fun _ _ _ h => h) (Or.inl ⟨by rfl, ?_⟩) (by assumption) ?_
            rotate_left 1
            · (intro w hSw; (try dsimp only at hSw); have k0 := hSw.cell 0; have k1 := hSw.cell 1; have k2 := hSw.cell 2; have k3 := hSw.cell 3; have k4 := hSw.cell 4; have k5 := hSw.cell 5; have k6 := hSw.cell 6; have k7 := hSw.cell 7; have k8 := hSw.cell 8; have k9 := hSw.cell 9; clear hSw; simp only [List.getElem?_toArray, List.getElem?_cons_succ, List.getElem?_cons_zero] at k0 k1 k2 k3 k4 k5 k6 k7 k8 k9; go_simp) <;> (with_reducible rfl)
            try simp only [Act.put, List.setIfInBounds_toArray, List.set_cons_zero, List.set_cons_succ]
            refine wpAnyH_ready (rs := [18]) (by kernel_rfl) (by simp) ?_
            refine AllReadyH.cons (o := ⟨some 41, _, _, _, _, _⟩) rfl (fun K hK => ?_) AllReadyH.nil
            go_simp
            go_at_call 23
            refine HFI.out.mono ?_
            clear HFI hHeld
            rintro e w7 ⟨he, hf7⟩
            obtain rfl : e = .returned (.bool false) := he
            have HF7 : Hid (Fr (fun b => b = bm) w2 w7) := HF6.out.trans (hf7.mono fun _ _ e => e.elim)
            have H7 := Lib.hid (H6.out.nofr hf7)
            have HN7 := Lib.hid (HBM.out _ HF7.out)
            clear hf7 H6
            refine hK.out _ _ ?_ (fun hHeld => ?_)
            · exact HSD.out _ HF7.out
            clear hK K
            try simp only [Act.put, List.setIfInBounds_toArray, List.set_cons_zero, List.set_cons_succ]
            refine wpAnyH_take (i := 19) (oi := ⟨some 42, _, _, _, _, _⟩) (v := ?_) rfl (by kernel_rfl) (by kernel_rfl) (by kernel_rfl) (fun _ _ _ h => h) (Or.inl ⟨by rfl, ?_⟩) (by assumption) ?_
            rotate_left 1
            · (intro w hSw; (try dsimp only at hSw); have k0 := hSw.cell 0; have k1 := hSw.cell 1; have k2 := hSw.cell 2; have k3 := hSw.cell 3; have k4 := hSw.cell 4; have k5 := hSw.cell 5; have k6 := hSw.cell 6; have k7 := hSw.cell 7; have k8 := hSw.cell 8; have k9 := hSw.cell 9; clear hSw; simp only [List.getElem?_toArray, List.getElem?_cons_succ, List.getElem?_cons_zero] at k0 k1 k2 k3 k4 k5 k6 k7 k8 k9; go_simp) <;> (with_reducible rfl)
            try simp only [Act.put, List.setIfInBounds_toArray, List.set_cons_zero, List.set_cons_succ]
            refine wpAnyH_take (i := 20) (oi := ⟨some 43, _, _, _, _, _⟩) (v := ?_) rfl (by kernel_rfl) (by kernel_rfl) (by kernel_rfl) (fun _ _ _ h => h) (Or.inl ⟨by rfl, ?_⟩) (by assumption) ?_
            rotate_left 1
            · (intro w hSw; (try dsimp only at hSw); have k0 := hSw.cell 0; have k1 := hSw.cell 1; have k2 := hSw.cell 2; have k3 := hSw.cell 3; have k4 := hSw.cell 4; have k5 := hSw.cell 5; have k6 := hSw.cell 6; have k7 := hSw.cell 7; have k8 := hSw.cell 8; have k9 := hSw.cell 9; clear hSw; simp only [List.getElem?_toArray, List.getElem?_cons_succ, List.getElem?_cons_zero] at k0 k1 k2 k3 k4 k5 k6 k7 k8 k9; go_simp) <;> (with_reducible rfl)
            try simp only [Act.put, List.setIfInBounds_toArray, List.set_cons_zero, List.set_cons_succ]
            refine wpAnyH_done (by kernel_rfl) ?_ _
            go_wp2_with fail
            go_roundw
            case rel => exact ⟨n + 1, _, by omega, by go_num, Nat.le_trans HS3.out (Nat.succ_le_succ HSL.out), H7, HN7, HMN⟩
            case measure => simp [intOf]; omega
    · have i3 : (xs.length : Int) ≤ (n : Int) := by omega
      go_wp2_with fail
      go_ret
      exact ⟨rfl, HFR.out⟩

theorem paramsOk : ∀ t ∈ Try.f4.params.toList, Try.prog.readableRec t = true ∧ t < Try.prog.types.size := fun t ht => by
  have h := List.all_eq_true.1 (show (Try.f4.params.toList.all fun t => Try.prog.readableRec t && decide (t < Try.prog.types.size)) = true by kernel_rfl) t ht
  simpa using h

set_option maxRecDepth 100000 in
theorem lifted (os : Os) (started : os.Started) (H : Type) (enc : TypeId × Value → H) :
    ReturnsInHanded {} Try.checked os 4 .any (Rows.filterOrdersSpec.pre6 enc Try.prog Try.f4 Rows.filterOrdersRow.domain false) (Rows.filterOrdersSpec.post enc Try.prog Try.f4 false true false false) := by
  refine returnsInHanded_of_change (C := Try.checked) own started (by kernel_rfl) Try.func4
    (ChangeSpec.witness6 (enc := enc) (C := Try.checked) false ⟨#[], #[.slice none 0 0], []⟩ 8 (by kernel_rfl) (by kernel_rfl) (by kernel_rfl) (by kernel_rfl)) ?_
  intro W base args ds gs before hval0 hW _ _
  have hval : ∀ (j : Nat) t v, Try.f4.params[j]? = some t → args[j]? = some v → Value.okWide Try.prog W .any base t v := hval0
  have hW' := hW
  obtain ⟨p, q, hA0, hV, rfl, _, _⟩ := hW
  have hA : DataW.TrodAll enc Try.prog W 0 (fun _ => true) true Try.f4.params.toList args.toList ds p := hA0
  rw [Try.params4] at hA hval
  obtain ⟨v0, vs0, d0, ds0, p0, q0, hargs, rfl, rfl, h0, r0⟩ := trodAll_cons hA
  obtain ⟨rfl, rfl, rfl⟩ := trodAll_nil r0
  obtain rfl : args = #[v0] := by cases args; simp_all
  obtain ⟨rfl, rfl⟩ := trodVars_none hV
  obtain ⟨A, c, l, rfl, hr, hx, hn, hm⟩ := open_ords (hval 0 _ v0 rfl rfl) h0
  have walk := walk W A c l hr hx (Nat.le_trans hn hm)
  clear hA0 hval0
  refine walk.mono fun e W' ⟨he, hf⟩ => ?_
  subst he
  exact ⟨_, rfl, law_post laidOut paramsOk rfl rfl Try.underlying4 hW' rfl rfl rfl hf⟩

theorem said : Rows.FilterOrdersSaid :=
  OpenClaim.holds_of_wide 4 Try.f4 rfl rfl rfl rfl rfl rfl rfl ⟨rfl, rfl, rfl, rfl, rfl⟩ rfl rfl rfl rfl rfl (by kernel_rfl) Try.func4 (by kernel_rfl)
    (of_decide_eq_true (by kernel_rfl)) (by unfold Func.isWrapper; first | (rw [if_pos (by decide +kernel)]; kernel_rfl) | (rw [if_neg (by decide +kernel)]; exact ⟨rfl, rfl⟩))
    (fun os started H enc _ => lifted os started H enc)
end Go.Proofs.Ythdbpbcllhgeoaa.filterOrders
