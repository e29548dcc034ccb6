/- The document's own First of layer 14. Conditions: few orders, few marks. -/
import Derived.Test.YtdgjjkmgdjiliaaOpenF
namespace Go.Proofs.Ytdgjjkmgdjiliaa
open Go.RowKit Go.Maps

theorem tg_and (a b : Tg) : (decide (a.node = b.node) && (decide (a.epoch = b.epoch) && (decide (a.seq = b.seq) && decide (a.tr = b.tr)))) = decide (a = b) := by
  obtain ⟨a1, a2, a3, a4⟩ := a
  obtain ⟨b1, b2, b3, b4⟩ := b
  by_cases h1 : a1 = b1 <;> by_cases h2 : a2 = b2 <;> by_cases h3 : a3 = b3 <;> by_cases h4 : a4 = b4 <;> simp [h1, h2, h3, h4]
theorem eqTag (a b : Tg) (w : World) : (binOp .eql 31 (tgv a) (tgv b)).run Try.prog w = .ok (.bool (decide (a = b))) w := by
  have u1 := Try.underlying3
  have a1 := Try.isAgg3
  have z1 := Try.sizeOf3
  have u2 := Try.underlying27
  have a2 := Try.isAgg27
  have z2 := Try.sizeOf27
  have a3 := Try.isAgg29
  have z3 := Try.sizeOf29
  have hS : Try.prog.underlying 31 = some (.struct (Try.prog.fieldsOf 31)) := by kernel_rfl
  have hp : Try.prog.stoodInHeld 31 = false := by kernel_rfl
  have hS2 : Try.prog.underlying 29 = some (.struct (Try.prog.fieldsOf 29)) := by kernel_rfl
  have hp2 : Try.prog.stoodInHeld 29 = false := by kernel_rfl
  have hI : ∀ w, (Op.equalIn 9999 29 (.agg #[.int .i64 a.node, .int .u64 (a.epoch : Int), .int .u64 (a.seq : Int)]) (.agg #[.int .i64 b.node, .int .u64 (b.epoch : Int), .int .u64 (b.seq : Int)])).run Try.prog w = .ok (decide (a.node = b.node) && (decide (a.epoch = b.epoch) && decide (a.seq = b.seq))) w := fun w => by
    rw [show (9999 : Nat) = 9998 + 1 from rfl, run_equalIn_agg w 9998 29 _ _ hS2 hp2]
    simp only [Program.fieldsOf, Try.underlying29]
    go_simp
    by_cases h1 : a.node = b.node <;> by_cases h2 : a.epoch = b.epoch <;> by_cases h3 : a.seq = b.seq <;> first | (simp [h1, h2, h3]; done) | (simp [h1, h2, h3]; omega) | (simp [h1, h2, h3]; intros; omega)
  rw [← tg_and]
  unfold tgv
  rw [run_eql_struct, show (10000 : Nat) = 9999 + 1 from rfl, run_equalIn_agg w 9999 31 _ _ hS hp]
  simp only [Program.fieldsOf, Try.underlying31]
  go_simp
  by_cases h1 : a.node = b.node <;> by_cases h2 : a.epoch = b.epoch <;> by_cases h3 : a.seq = b.seq <;> by_cases h4 : a.tr = b.tr <;> first | (simp [h1, h2, h3, h4]; done) | (simp [h1, h2, h3, h4]; omega)

/-- an order of a list that's the first of its tag. -/
def ahead (o p : Od) : Bool := decide (tgOf p = tgOf o) && !singleOf p
def firstAt (xs : List Od) (n : Nat) (o : Od) : Bool := !singleOf o && (xs.take n).all fun p => !ahead o p
theorem firstAt_no {xs : List Od} {n k : Nat} {o p : Od} (hk : k < n) (hp : xs[k]? = some p) (h : ahead o p = true) : firstAt xs n o = false := by
  have : p ∈ xs.take n := List.mem_of_getElem? (i := k) (by rw [List.getElem?_take, if_pos hk]; exact hp)
  have h2 : ((xs.take n).all fun p => !ahead o p) = false := by
    rw [List.all_eq_false]
    exact ⟨p, this, by simp [h]⟩
  unfold firstAt
  rw [h2, Bool.and_false]
theorem firstAt_yes {xs : List Od} {n : Nat} {o : Od} (hs : singleOf o = false) (h : ∀ (j : Nat) (p : Od), j < n → xs[j]? = some p → ahead o p = false) : firstAt xs n o = true := by
  have h2 : ((xs.take n).all fun p => !ahead o p) = true := by
    rw [List.all_eq_true]
    intro p hp
    obtain ⟨j, hj⟩ := List.getElem?_of_mem hp
    have hl := (List.getElem?_eq_some_iff.1 hj).1
    rw [List.length_take] at hl
    rw [List.getElem?_take, if_pos (by omega)] at hj
    rw [h j p (by omega) hj]
    rfl
  unfold firstAt
  rw [h2, hs]
  rfl
theorem Rd.ord {w : World} {A : Option Addr} {xs : List Od} (h : Rd w A (odsc xs)) {i : Nat} {p : Od} (hp : xs[i]? = some p) :
    ∃ b o, A = some ⟨b, o, none⟩ ∧ ∀ j v, (odc p)[j]? = some v → w.cell? ⟨b, o + i * 10 + j, none⟩ = some v := Rd.cat odc 10 odc_len h (by omega) hp

set_option maxRecDepth 100000 in
set_option maxHeartbeats 1000000 in
theorem dfirst_any (w : World) (A : Option Addr) (c : Nat) (xs : List Od) (hr : Rd w A (odsc xs)) (hl : xs.length ≤ 40) (n : Nat) (o : Od) (ho : xs[n]? = some o) (hO : ∀ (j : Nat) (p : Od), j ≤ n → xs[j]? = some p → OdIn w p ∧ p.marks.length ≤ 1000) :
    Calls Try.prog 23 #[.slice A xs.length c, .int .i64 n] w fun e w' => e = .returned (.bool (firstAt xs n o)) ∧ Fr NoBlk w w' := by
  have hn := (List.getElem?_eq_some_iff.1 ho).1
  have h1 := hO n o (Nat.le_refl _) ho
  have HSO := Lib.hid (dsingle_any w o h1.1 h1.2)
  obtain ⟨B, O, hA, hc⟩ := hr.ord ho
  have c0 : w.cell? ⟨B, O + n * 10, none⟩ = some (.int .i64 o.node) := hc 0 _ rfl
  have c1 : w.cell? ⟨B, O + n * 10 + 1, none⟩ = some (.int .u64 (o.epoch : Int)) := hc 1 _ rfl
  have c2 : w.cell? ⟨B, O + n * 10 + 2, none⟩ = some (.int .u64 (o.seq : Int)) := hc 2 _ rfl
  have c3 : w.cell? ⟨B, O + n * 10 + 3, none⟩ = some (.int .i64 o.tr) := hc 3 _ rfl
  have c4 : w.cell? ⟨B, O + n * 10 + 4, none⟩ = some (.int .i64 o.t.kind) := hc 4 _ rfl
  have c5 : w.cell? ⟨B, O + n * 10 + 5, none⟩ = some (.slice o.t.ra o.t.reads.length o.t.rc) := hc 5 _ rfl
  have c6 : w.cell? ⟨B, O + n * 10 + 6, none⟩ = some (.slice o.t.wa o.t.writes.length o.t.wc) := hc 6 _ rfl
  have c7 : w.cell? ⟨B, O + n * 10 + 7, none⟩ = some (.slice o.t.oa o.t.ops.length o.t.oc) := hc 7 _ rfl
  have c8 : w.cell? ⟨B, O + n * 10 + 8, none⟩ = some (.int .i64 o.t.to) := hc 8 _ rfl
  have c9 : w.cell? ⟨B, O + n * 10 + 9, none⟩ = some (.slice o.ma o.marks.length o.mc) := hc 9 _ rfl
  have HO := Lib.hid hO
  have HR := Lib.hid hr
  have HOO := Lib.hid ho
  have HLL := Lib.hid hl
  have i1 : (0 : Int) ≤ (n : Int) := by omega
  have i2 : (n : Int) < (xs.length : Int) := by omega
  subst hA
  obtain ⟨b, hb⟩ : ∃ b, b = singleOf o := ⟨_, rfl⟩
  rw [← hb] at HSO
  have HSB := Lib.hid hb
  clear h1 hc hO hr ho hb
  unfold odv oda at HSO
  go_enter Try.func23, Try.ntmps23
  go_wp2_with fail
  refine HSO.out.mono ?_
  clear HSO
  rintro e w1 ⟨rfl, hf1⟩
  have HF1 := Lib.hid hf1
  clear hf1 c0 c1 c2 c3 c4 c5 c6 c7 c8 c9
  cases b with
  | true =>
    go_wp2_with fail
    go_ret
    exact ⟨ret_bool (by unfold firstAt; rw [← HSB.out]; rfl), HF1.out⟩
  | false =>
    go_wp2_with fail
    go_loopw [5] (fun z wr => ∃ k : Nat, k ≤ n ∧ z = .int .i64 k ∧ Hid (∀ (j : Nat) (p : Od), j < k → xs[j]? = some p → ahead o p = false) ∧ Hid (Fr NoBlk w wr)) (fun z _ => n - (intOf z).toNat)
    case atStart => exact ⟨0, by omega, rfl, (fun j _ h1 => absurd h1 (by omega)), HF1.out⟩
    case round =>
      obtain ⟨k, hk, rfl, HE, HFR⟩ := hrel
      by_cases hlt : k < n
      · obtain ⟨p, hp⟩ : ∃ p, xs[k]? = some p := ⟨_, List.getElem?_eq_getElem (by omega)⟩
        obtain ⟨hp1, hp2⟩ := HO.out k p (by omega) hp
        have HSG := Lib.hid (dsingle_any wr.drew p ((hp1.nofr HFR.out).nofr (Fr.refl _ _).drew) hp2)
        have HRR := HR.out.nofr HFR.out
        obtain ⟨B2, O2, e2, hcp⟩ := HRR.ord hp
        obtain ⟨B3, O3, e3, hco⟩ := HRR.ord HOO.out
        injection e2 with e2
        injection e2 with e2 e2' e2''
        injection e3 with e3
        injection e3 with e3 e3' e3''
        subst e2 e2' e3 e3'
        clear e2'' e3''
        have i3 : (0 : Int) ≤ (k : Int) := by omega
        have i4 : (k : Int) < (xs.length : Int) := by omega
        have HNO : Hid (ahead o p = true → firstAt xs n o = false) := fun h => firstAt_no hlt hp h
        have HNX : Hid (ahead o p = false → ∀ (j : Nat) (p : Od), j < k + 1 → xs[j]? = some p → ahead o p = false) := by
          intro h j x' hj2 hx'
          by_cases e : j = k
          · subst e
            rw [hp] at hx'
            injection hx' with hx'
            subst hx'
            exact h
          · exact HE.out j x' (by omega) hx'
        have hq := eqTag (tgOf p) (tgOf o)
        have hg := (by kernel_rfl : Try.prog.eqGuardType Try.prog.depth 31 = false)
        have HAH : Hid (ahead o p = (decide (tgOf p = tgOf o) && !singleOf p)) := rfl
        obtain ⟨b1, hb1⟩ : ∃ b1, b1 = decide (tgOf p = tgOf o) := ⟨_, rfl⟩
        rw [← hb1] at hq
        have HT := Lib.hid hb1.symm
        clear hb1
        unfold tgv tgOf at hq
        dsimp only at hq
        have hp' := hp
        clear hp hp1 hp2 HRR
        cases b1 with
        | false =>
          have c0 : wr.cell? ⟨B, O + n * 10, none⟩ = some (.int .i64 o.node) := hco 0 _ rfl
          have c1 : wr.cell? ⟨B, O + n * 10 + 1, none⟩ = some (.int .u64 (o.epoch : Int)) := hco 1 _ rfl
          have c2 : wr.cell? ⟨B, O + n * 10 + 2, none⟩ = some (.int .u64 (o.seq : Int)) := hco 2 _ rfl
          have c3 : wr.cell? ⟨B, O + n * 10 + 3, none⟩ = some (.int .i64 o.tr) := hco 3 _ rfl
          have d0 : wr.cell? ⟨B, O + k * 10, none⟩ = some (.int .i64 p.node) := hcp 0 _ rfl
          have d1 : wr.cell? ⟨B, O + k * 10 + 1, none⟩ = some (.int .u64 (p.epoch : Int)) := hcp 1 _ rfl
          have d2 : wr.cell? ⟨B, O + k * 10 + 2, none⟩ = some (.int .u64 (p.seq : Int)) := hcp 2 _ rfl
          have d3 : wr.cell? ⟨B, O + k * 10 + 3, none⟩ = some (.int .i64 p.tr) := hcp 3 _ rfl
          have HY := Lib.hid (HNX.out (by rw [HAH.out, HT.out]; rfl))
          clear hco hcp HSG HNO HNX hp'
          go_wp2_with fail
          go_quiet (fail)
          go_wp2
          go_roundw
          case rel => exact ⟨k + 1, by omega, by go_num, HY, HFR.out.drewN _⟩
          case measure => simp [intOf]; omega
        | true =>
          have HSD : Hid (∀ W, Fr NoBlk wr W → (∀ j v, (odc p)[j]? = some v → W.cell? ⟨B, O + k * 10 + j, none⟩ = some v) ∧ (∀ j v, (odc o)[j]? = some v → W.cell? ⟨B, O + n * 10 + j, none⟩ = some v)) := by
            intro W hW
            have hRW := (HR.out.nofr HFR.out).nofr hW
            obtain ⟨B2, O2, e2, hcp⟩ := hRW.ord hp'
            obtain ⟨B3, O3, e3, hco⟩ := hRW.ord HOO.out
            injection e2 with e2
            injection e2 with e2 e2' e2''
            injection e3 with e3
            injection e3 with e3 e3' e3''
            subst e2 e2' e3 e3'
            exact ⟨hcp, hco⟩
          have HYS : Hid (ahead o p = !singleOf p) := by show _ = _; rw [HAH.out, HT.out]; rfl
          clear HAH HT
          unfold odv oda at HSG
          generalize singleOf p = b2 at HSG HYS
          clear hcp hco hp'
          go_wp2_with fail
          refine wp_region_held_drew (S := fun w' => (∀ j v, (odc p)[j]? = some v → w'.cell? ⟨B, O + k * 10 + j, none⟩ = some v) ∧ (∀ j v, (odc o)[j]? = some v → w'.cell? ⟨B, O + n * 10 + j, none⟩ = some v)) (by kernel_rfl) (HSD.out _ (Fr.refl _ _).drew) (fun hHeld => ?_)
          refine wpAnyH_take (i := 0) (oi := ⟨some 16, _, _, _, _, _⟩) (v := ?_) rfl (by kernel_rfl) (by kernel_rfl) (by kernel_rfl) (fun _ _ _ h => h) (Or.inl ⟨by rfl, ?_⟩) (by assumption) ?_
          rotate_left 1
          · (intro w hSw; (try dsimp only at hSw); obtain ⟨hS1, hS2⟩ := hSw; have k0 := hS1 0 _ rfl; have j0 := hS2 0 _ rfl; have k1 := hS1 1 _ rfl; have j1 := hS2 1 _ rfl; have k2 := hS1 2 _ rfl; have j2 := hS2 2 _ rfl; have k3 := hS1 3 _ rfl; have j3 := hS2 3 _ rfl; have k4 := hS1 4 _ rfl; have j4 := hS2 4 _ rfl; have k5 := hS1 5 _ rfl; have j5 := hS2 5 _ rfl; have k6 := hS1 6 _ rfl; have j6 := hS2 6 _ rfl; have k7 := hS1 7 _ rfl; have j7 := hS2 7 _ rfl; have k8 := hS1 8 _ rfl; have j8 := hS2 8 _ rfl; have k9 := hS1 9 _ rfl; have j9 := hS2 9 _ rfl; clear hS1 hS2; (try simp only [Nat.add_zero] at k0 j0); go_simp) <;> (with_reducible rfl)
          try simp only [Act.put, List.setIfInBounds_toArray, List.set_cons_zero, List.set_cons_succ]
          refine wpAnyH_take (i := 1) (oi := ⟨some 17, _, _, _, _, _⟩) (v := ?_) rfl (by kernel_rfl) (by kernel_rfl) (by kernel_rfl) (fun _ _ _ h => h) (Or.inl ⟨by rfl, ?_⟩) (by assumption) ?_
          rotate_left 1
          · (intro w hSw; (try dsimp only at hSw); obtain ⟨hS1, hS2⟩ := hSw; have k0 := hS1 0 _ rfl; have j0 := hS2 0 _ rfl; have k1 := hS1 1 _ rfl; have j1 := hS2 1 _ rfl; have k2 := hS1 2 _ rfl; have j2 := hS2 2 _ rfl; have k3 := hS1 3 _ rfl; have j3 := hS2 3 _ rfl; have k4 := hS1 4 _ rfl; have j4 := hS2 4 _ rfl; have k5 := hS1 5 _ rfl; have j5 := hS2 5 _ rfl; have k6 := hS1 6 _ rfl; have j6 := hS2 6 _ rfl; have k7 := hS1 7 _ rfl; have j7 := hS2 7 _ rfl; have k8 := hS1 8 _ rfl; have j8 := hS2 8 _ rfl; have k9 := hS1 9 _ rfl; have j9 := hS2 9 _ rfl; clear hS1 hS2; (try simp only [Nat.add_zero] at k0 j0); go_simp) <;> (with_reducible rfl)
          try simp only [Act.put, List.setIfInBounds_toArray, List.set_cons_zero, List.set_cons_succ]
          refine wpAnyH_take (i := 2) (oi := ⟨some 18, _, _, _, _, _⟩) (v := ?_) rfl (by kernel_rfl) (by kernel_rfl) (by kernel_rfl) (fun _ _ _ h => h) (Or.inl ⟨by rfl, ?_⟩) (by assumption) ?_
          rotate_left 1
          · (intro w hSw; (try dsimp only at hSw); obtain ⟨hS1, hS2⟩ := hSw; have k0 := hS1 0 _ rfl; have j0 := hS2 0 _ rfl; have k1 := hS1 1 _ rfl; have j1 := hS2 1 _ rfl; have k2 := hS1 2 _ rfl; have j2 := hS2 2 _ rfl; have k3 := hS1 3 _ rfl; have j3 := hS2 3 _ rfl; have k4 := hS1 4 _ rfl; have j4 := hS2 4 _ rfl; have k5 := hS1 5 _ rfl; have j5 := hS2 5 _ rfl; have k6 := hS1 6 _ rfl; have j6 := hS2 6 _ rfl; have k7 := hS1 7 _ rfl; have j7 := hS2 7 _ rfl; have k8 := hS1 8 _ rfl; have j8 := hS2 8 _ rfl; have k9 := hS1 9 _ rfl; have j9 := hS2 9 _ rfl; clear hS1 hS2; (try simp only [Nat.add_zero] at k0 j0); go_simp) <;> (with_reducible rfl)
          try simp only [Act.put, List.setIfInBounds_toArray, List.set_cons_zero, List.set_cons_succ]
          refine wpAnyH_take (i := 3) (oi := ⟨some 19, _, _, _, _, _⟩) (v := ?_) rfl (by kernel_rfl) (by kernel_rfl) (by kernel_rfl) (fun _ _ _ h => h) (Or.inl ⟨by rfl, ?_⟩) (by assumption) ?_
          rotate_left 1
          · (intro w hSw; (try dsimp only at hSw); obtain ⟨hS1, hS2⟩ := hSw; have k0 := hS1 0 _ rfl; have j0 := hS2 0 _ rfl; have k1 := hS1 1 _ rfl; have j1 := hS2 1 _ rfl; have k2 := hS1 2 _ rfl; have j2 := hS2 2 _ rfl; have k3 := hS1 3 _ rfl; have j3 := hS2 3 _ rfl; have k4 := hS1 4 _ rfl; have j4 := hS2 4 _ rfl; have k5 := hS1 5 _ rfl; have j5 := hS2 5 _ rfl; have k6 := hS1 6 _ rfl; have j6 := hS2 6 _ rfl; have k7 := hS1 7 _ rfl; have j7 := hS2 7 _ rfl; have k8 := hS1 8 _ rfl; have j8 := hS2 8 _ rfl; have k9 := hS1 9 _ rfl; have j9 := hS2 9 _ rfl; clear hS1 hS2; (try simp only [Nat.add_zero] at k0 j0); go_simp) <;> (with_reducible rfl)
          try simp only [Act.put, List.setIfInBounds_toArray, List.set_cons_zero, List.set_cons_succ]
          refine wpAnyH_take (i := 4) (oi := ⟨some 20, _, _, _, _, _⟩) (v := ?_) rfl (by kernel_rfl) (by kernel_rfl) (by kernel_rfl) (fun _ _ _ h => h) (Or.inl ⟨by rfl, ?_⟩) (by assumption) ?_
          rotate_left 1
          · (intro w hSw; (try dsimp only at hSw); obtain ⟨hS1, hS2⟩ := hSw; have k0 := hS1 0 _ rfl; have j0 := hS2 0 _ rfl; have k1 := hS1 1 _ rfl; have j1 := hS2 1 _ rfl; have k2 := hS1 2 _ rfl; have j2 := hS2 2 _ rfl; have k3 := hS1 3 _ rfl; have j3 := hS2 3 _ rfl; have k4 := hS1 4 _ rfl; have j4 := hS2 4 _ rfl; have k5 := hS1 5 _ rfl; have j5 := hS2 5 _ rfl; have k6 := hS1 6 _ rfl; have j6 := hS2 6 _ rfl; have k7 := hS1 7 _ rfl; have j7 := hS2 7 _ rfl; have k8 := hS1 8 _ rfl; have j8 := hS2 8 _ rfl; have k9 := hS1 9 _ rfl; have j9 := hS2 9 _ rfl; clear hS1 hS2; (try simp only [Nat.add_zero] at k0 j0); go_simp) <;> (with_reducible rfl)
          try simp only [Act.put, List.setIfInBounds_toArray, List.set_cons_zero, List.set_cons_succ]
          refine wpAnyH_take (i := 5) (oi := ⟨some 21, _, _, _, _, _⟩) (v := ?_) rfl (by kernel_rfl) (by kernel_rfl) (by kernel_rfl) (fun _ _ _ h => h) (Or.inl ⟨by rfl, ?_⟩) (by assumption) ?_
          rotate_left 1
          · (intro w hSw; (try dsimp only at hSw); obtain ⟨hS1, hS2⟩ := hSw; have k0 := hS1 0 _ rfl; have j0 := hS2 0 _ rfl; have k1 := hS1 1 _ rfl; have j1 := hS2 1 _ rfl; have k2 := hS1 2 _ rfl; have j2 := hS2 2 _ rfl; have k3 := hS1 3 _ rfl; have j3 := hS2 3 _ rfl; have k4 := hS1 4 _ rfl; have j4 := hS2 4 _ rfl; have k5 := hS1 5 _ rfl; have j5 := hS2 5 _ rfl; have k6 := hS1 6 _ rfl; have j6 := hS2 6 _ rfl; have k7 := hS1 7 _ rfl; have j7 := hS2 7 _ rfl; have k8 := hS1 8 _ rfl; have j8 := hS2 8 _ rfl; have k9 := hS1 9 _ rfl; have j9 := hS2 9 _ rfl; clear hS1 hS2; (try simp only [Nat.add_zero] at k0 j0); go_simp) <;> (with_reducible rfl)
          try simp only [Act.put, List.setIfInBounds_toArray, List.set_cons_zero, List.set_cons_succ]
          refine wpAnyH_take (i := 6) (oi := ⟨some 22, _, _, _, _, _⟩) (v := ?_) rfl (by kernel_rfl) (by kernel_rfl) (by kernel_rfl) (fun _ _ _ h => h) (Or.inl ⟨by rfl, ?_⟩) (by assumption) ?_
          rotate_left 1
          · (intro w hSw; (try dsimp only at hSw); obtain ⟨hS1, hS2⟩ := hSw; have k0 := hS1 0 _ rfl; have j0 := hS2 0 _ rfl; have k1 := hS1 1 _ rfl; have j1 := hS2 1 _ rfl; have k2 := hS1 2 _ rfl; have j2 := hS2 2 _ rfl; have k3 := hS1 3 _ rfl; have j3 := hS2 3 _ rfl; have k4 := hS1 4 _ rfl; have j4 := hS2 4 _ rfl; have k5 := hS1 5 _ rfl; have j5 := hS2 5 _ rfl; have k6 := hS1 6 _ rfl; have j6 := hS2 6 _ rfl; have k7 := hS1 7 _ rfl; have j7 := hS2 7 _ rfl; have k8 := hS1 8 _ rfl; have j8 := hS2 8 _ rfl; have k9 := hS1 9 _ rfl; have j9 := hS2 9 _ rfl; clear hS1 hS2; (try simp only [Nat.add_zero] at k0 j0); go_simp) <;> (with_reducible rfl)
          try simp only [Act.put, List.setIfInBounds_toArray, List.set_cons_zero, List.set_cons_succ]
          refine wpAnyH_take (i := 7) (oi := ⟨some 23, _, _, _, _, _⟩) (v := ?_) rfl (by kernel_rfl) (by kernel_rfl) (by kernel_rfl) (fun _ _ _ h => h) (Or.inl ⟨by rfl, ?_⟩) (by assumption) ?_
          rotate_left 1
          · (intro w hSw; (try dsimp only at hSw); obtain ⟨hS1, hS2⟩ := hSw; have k0 := hS1 0 _ rfl; have j0 := hS2 0 _ rfl; have k1 := hS1 1 _ rfl; have j1 := hS2 1 _ rfl; have k2 := hS1 2 _ rfl; have j2 := hS2 2 _ rfl; have k3 := hS1 3 _ rfl; have j3 := hS2 3 _ rfl; have k4 := hS1 4 _ rfl; have j4 := hS2 4 _ rfl; have k5 := hS1 5 _ rfl; have j5 := hS2 5 _ rfl; have k6 := hS1 6 _ rfl; have j6 := hS2 6 _ rfl; have k7 := hS1 7 _ rfl; have j7 := hS2 7 _ rfl; have k8 := hS1 8 _ rfl; have j8 := hS2 8 _ rfl; have k9 := hS1 9 _ rfl; have j9 := hS2 9 _ rfl; clear hS1 hS2; (try simp only [Nat.add_zero] at k0 j0); go_simp) <;> (with_reducible rfl)
          try simp only [Act.put, List.setIfInBounds_toArray, List.set_cons_zero, List.set_cons_succ]
          refine wpAnyH_take (i := 8) (oi := ⟨some 24, _, _, _, _, _⟩) (v := ?_) rfl (by kernel_rfl) (by kernel_rfl) (by kernel_rfl) (fun _ _ _ h => h) (Or.inl ⟨by rfl, ?_⟩) (by assumption) ?_
          rotate_left 1
          · (intro w hSw; (try dsimp only at hSw); obtain ⟨hS1, hS2⟩ := hSw; have k0 := hS1 0 _ rfl; have j0 := hS2 0 _ rfl; have k1 := hS1 1 _ rfl; have j1 := hS2 1 _ rfl; have k2 := hS1 2 _ rfl; have j2 := hS2 2 _ rfl; have k3 := hS1 3 _ rfl; have j3 := hS2 3 _ rfl; have k4 := hS1 4 _ rfl; have j4 := hS2 4 _ rfl; have k5 := hS1 5 _ rfl; have j5 := hS2 5 _ rfl; have k6 := hS1 6 _ rfl; have j6 := hS2 6 _ rfl; have k7 := hS1 7 _ rfl; have j7 := hS2 7 _ rfl; have k8 := hS1 8 _ rfl; have j8 := hS2 8 _ rfl; have k9 := hS1 9 _ rfl; have j9 := hS2 9 _ rfl; clear hS1 hS2; (try simp only [Nat.add_zero] at k0 j0); go_simp) <;> (with_reducible rfl)
          try simp only [Act.put, List.setIfInBounds_toArray, List.set_cons_zero, List.set_cons_succ]
          refine wpAnyH_take (i := 9) (oi := ⟨some 25, _, _, _, _, _⟩) (v := ?_) rfl (by kernel_rfl) (by kernel_rfl) (by kernel_rfl) (fun _ _ _ h => h) (Or.inl ⟨by rfl, ?_⟩) (by assumption) ?_
          rotate_left 1
          · (intro w hSw; (try dsimp only at hSw); obtain ⟨hS1, hS2⟩ := hSw; have k0 := hS1 0 _ rfl; have j0 := hS2 0 _ rfl; have k1 := hS1 1 _ rfl; have j1 := hS2 1 _ rfl; have k2 := hS1 2 _ rfl; have j2 := hS2 2 _ rfl; have k3 := hS1 3 _ rfl; have j3 := hS2 3 _ rfl; have k4 := hS1 4 _ rfl; have j4 := hS2 4 _ rfl; have k5 := hS1 5 _ rfl; have j5 := hS2 5 _ rfl; have k6 := hS1 6 _ rfl; have j6 := hS2 6 _ rfl; have k7 := hS1 7 _ rfl; have j7 := hS2 7 _ rfl; have k8 := hS1 8 _ rfl; have j8 := hS2 8 _ rfl; have k9 := hS1 9 _ rfl; have j9 := hS2 9 _ rfl; clear hS1 hS2; (try simp only [Nat.add_zero] at k0 j0); go_simp) <;> (with_reducible rfl)
          try simp only [Act.put, List.setIfInBounds_toArray, List.set_cons_zero, List.set_cons_succ]
          refine wpAnyH_take (i := 10) (oi := ⟨some 26, _, _, _, _, _⟩) (v := ?_) rfl (by kernel_rfl) (by kernel_rfl) (by kernel_rfl) (fun _ _ _ h => h) (Or.inl ⟨by rfl, ?_⟩) (by assumption) ?_
          rotate_left 1
          · (intro w hSw; (try dsimp only at hSw); obtain ⟨hS1, hS2⟩ := hSw; have k0 := hS1 0 _ rfl; have j0 := hS2 0 _ rfl; have k1 := hS1 1 _ rfl; have j1 := hS2 1 _ rfl; have k2 := hS1 2 _ rfl; have j2 := hS2 2 _ rfl; have k3 := hS1 3 _ rfl; have j3 := hS2 3 _ rfl; have k4 := hS1 4 _ rfl; have j4 := hS2 4 _ rfl; have k5 := hS1 5 _ rfl; have j5 := hS2 5 _ rfl; have k6 := hS1 6 _ rfl; have j6 := hS2 6 _ rfl; have k7 := hS1 7 _ rfl; have j7 := hS2 7 _ rfl; have k8 := hS1 8 _ rfl; have j8 := hS2 8 _ rfl; have k9 := hS1 9 _ rfl; have j9 := hS2 9 _ rfl; clear hS1 hS2; (try simp only [Nat.add_zero] at k0 j0); go_simp) <;> (with_reducible rfl)
          try simp only [Act.put, List.setIfInBounds_toArray, List.set_cons_zero, List.set_cons_succ]
          refine wpAnyH_take (i := 11) (oi := ⟨some 27, _, _, _, _, _⟩) (v := ?_) rfl (by kernel_rfl) (by kernel_rfl) (by kernel_rfl) (fun _ _ _ h => h) (Or.inl ⟨by rfl, ?_⟩) (by assumption) ?_
          rotate_left 1
          · (intro w hSw; (try dsimp only at hSw); obtain ⟨hS1, hS2⟩ := hSw; have k0 := hS1 0 _ rfl; have j0 := hS2 0 _ rfl; have k1 := hS1 1 _ rfl; have j1 := hS2 1 _ rfl; have k2 := hS1 2 _ rfl; have j2 := hS2 2 _ rfl; have k3 := hS1 3 _ rfl; have j3 := hS2 3 _ rfl; have k4 := hS1 4 _ rfl; have j4 := hS2 4 _ rfl; have k5 := hS1 5 _ rfl; have j5 := hS2 5 _ rfl; have k6 := hS1 6 _ rfl; have j6 := hS2 6 _ rfl; have k7 := hS1 7 _ rfl; have j7 := hS2 7 _ rfl; have k8 := hS1 8 _ rfl; have j8 := hS2 8 _ rfl; have k9 := hS1 9 _ rfl; have j9 := hS2 9 _ rfl; clear hS1 hS2; (try simp only [Nat.add_zero] at k0 j0); go_simp) <;> (with_reducible rfl)
          try simp only [Act.put, List.setIfInBounds_toArray, List.set_cons_zero, List.set_cons_succ]
          refine wpAnyH_take (i := 12) (oi := ⟨some 28, _, _, _, _, _⟩) (v := ?_) rfl (by kernel_rfl) (by kernel_rfl) (by kernel_rfl) (fun _ _ _ h => h) (Or.inl ⟨by rfl, ?_⟩) (by assumption) ?_
          rotate_left 1
          · (intro w hSw; (try dsimp only at hSw); obtain ⟨hS1, hS2⟩ := hSw; have k0 := hS1 0 _ rfl; have j0 := hS2 0 _ rfl; have k1 := hS1 1 _ rfl; have j1 := hS2 1 _ rfl; have k2 := hS1 2 _ rfl; have j2 := hS2 2 _ rfl; have k3 := hS1 3 _ rfl; have j3 := hS2 3 _ rfl; have k4 := hS1 4 _ rfl; have j4 := hS2 4 _ rfl; have k5 := hS1 5 _ rfl; have j5 := hS2 5 _ rfl; have k6 := hS1 6 _ rfl; have j6 := hS2 6 _ rfl; have k7 := hS1 7 _ rfl; have j7 := hS2 7 _ rfl; have k8 := hS1 8 _ rfl; have j8 := hS2 8 _ rfl; have k9 := hS1 9 _ rfl; have j9 := hS2 9 _ rfl; clear hS1 hS2; (try simp only [Nat.add_zero] at k0 j0); go_simp) <;> (with_reducible rfl)
          try simp only [Act.put, List.setIfInBounds_toArray, List.set_cons_zero, List.set_cons_succ]
          refine wpAnyH_take (i := 13) (oi := ⟨some 29, _, _, _, _, _⟩) (v := ?_) rfl (by kernel_rfl) (by kernel_rfl) (by kernel_rfl) (fun _ _ _ h => h) (Or.inl ⟨by rfl, ?_⟩) (by assumption) ?_
          rotate_left 1
          · (intro w hSw; (try dsimp only at hSw); obtain ⟨hS1, hS2⟩ := hSw; have k0 := hS1 0 _ rfl; have j0 := hS2 0 _ rfl; have k1 := hS1 1 _ rfl; have j1 := hS2 1 _ rfl; have k2 := hS1 2 _ rfl; have j2 := hS2 2 _ rfl; have k3 := hS1 3 _ rfl; have j3 := hS2 3 _ rfl; have k4 := hS1 4 _ rfl; have j4 := hS2 4 _ rfl; have k5 := hS1 5 _ rfl; have j5 := hS2 5 _ rfl; have k6 := hS1 6 _ rfl; have j6 := hS2 6 _ rfl; have k7 := hS1 7 _ rfl; have j7 := hS2 7 _ rfl; have k8 := hS1 8 _ rfl; have j8 := hS2 8 _ rfl; have k9 := hS1 9 _ rfl; have j9 := hS2 9 _ rfl; clear hS1 hS2; (try simp only [Nat.add_zero] at k0 j0); go_simp) <;> (with_reducible rfl)
          try simp only [Act.put, List.setIfInBounds_toArray, List.set_cons_zero, List.set_cons_succ]
          refine wpAnyH_take (i := 14) (oi := ⟨some 30, _, _, _, _, _⟩) (v := ?_) rfl (by kernel_rfl) (by kernel_rfl) (by kernel_rfl) (fun _ _ _ h => h) (Or.inl ⟨by rfl, ?_⟩) (by assumption) ?_
          rotate_left 1
          · (intro w hSw; (try dsimp only at hSw); obtain ⟨hS1, hS2⟩ := hSw; have k0 := hS1 0 _ rfl; have j0 := hS2 0 _ rfl; have k1 := hS1 1 _ rfl; have j1 := hS2 1 _ rfl; have k2 := hS1 2 _ rfl; have j2 := hS2 2 _ rfl; have k3 := hS1 3 _ rfl; have j3 := hS2 3 _ rfl; have k4 := hS1 4 _ rfl; have j4 := hS2 4 _ rfl; have k5 := hS1 5 _ rfl; have j5 := hS2 5 _ rfl; have k6 := hS1 6 _ rfl; have j6 := hS2 6 _ rfl; have k7 := hS1 7 _ rfl; have j7 := hS2 7 _ rfl; have k8 := hS1 8 _ rfl; have j8 := hS2 8 _ rfl; have k9 := hS1 9 _ rfl; have j9 := hS2 9 _ rfl; clear hS1 hS2; (try simp only [Nat.add_zero] at k0 j0); go_simp) <;> (with_reducible rfl)
          try simp only [Act.put, List.setIfInBounds_toArray, List.set_cons_zero, List.set_cons_succ]
          refine wpAnyH_take (i := 15) (oi := ⟨some 31, _, _, _, _, _⟩) (v := ?_) rfl (by kernel_rfl) (by kernel_rfl) (by kernel_rfl) (fun _ _ _ h => h) (Or.inl ⟨by rfl, ?_⟩) (by assumption) ?_
          rotate_left 1
          · (intro w hSw; (try dsimp only at hSw); obtain ⟨hS1, hS2⟩ := hSw; have k0 := hS1 0 _ rfl; have j0 := hS2 0 _ rfl; have k1 := hS1 1 _ rfl; have j1 := hS2 1 _ rfl; have k2 := hS1 2 _ rfl; have j2 := hS2 2 _ rfl; have k3 := hS1 3 _ rfl; have j3 := hS2 3 _ rfl; have k4 := hS1 4 _ rfl; have j4 := hS2 4 _ rfl; have k5 := hS1 5 _ rfl; have j5 := hS2 5 _ rfl; have k6 := hS1 6 _ rfl; have j6 := hS2 6 _ rfl; have k7 := hS1 7 _ rfl; have j7 := hS2 7 _ rfl; have k8 := hS1 8 _ rfl; have j8 := hS2 8 _ rfl; have k9 := hS1 9 _ rfl; have j9 := hS2 9 _ rfl; clear hS1 hS2; (try simp only [Nat.add_zero] at k0 j0); go_simp) <;> (with_reducible rfl)
          try simp only [Act.put, List.setIfInBounds_toArray, List.set_cons_zero, List.set_cons_succ]
          refine wpAnyH_ready (rs := [16]) (by kernel_rfl) (by simp) ?_
          refine AllReadyH.cons (o := ⟨some 32, _, _, _, _, _⟩) rfl (fun K hK => ?_) AllReadyH.nil
          go_simp
          go_at_call 24
          refine HSG.out.mono ?_
          clear HSG hHeld
          rintro e w2 ⟨rfl, hf2⟩
          have HF2 := Lib.hid ((Fr.refl NoBlk wr).drew.trans hf2)
          clear hf2
          refine hK.out _ _ ?_ (fun hHeld => ?_)
          · exact HSD.out _ HF2.out
          clear hK K
          try simp only [Act.put, List.setIfInBounds_toArray, List.set_cons_zero, List.set_cons_succ]
          refine wpAnyH_take (i := 17) (oi := ⟨some 33, _, _, _, _, _⟩) (v := ?_) rfl (by kernel_rfl) (by kernel_rfl) (by kernel_rfl) (fun _ _ _ h => h) (Or.inl ⟨by rfl, ?_⟩) (by assumption) ?_
          rotate_left 1
          · (intro w hSw; (try dsimp only at hSw); obtain ⟨hS1, hS2⟩ := hSw; have k0 := hS1 0 _ rfl; have j0 := hS2 0 _ rfl; have k1 := hS1 1 _ rfl; have j1 := hS2 1 _ rfl; have k2 := hS1 2 _ rfl; have j2 := hS2 2 _ rfl; have k3 := hS1 3 _ rfl; have j3 := hS2 3 _ rfl; have k4 := hS1 4 _ rfl; have j4 := hS2 4 _ rfl; have k5 := hS1 5 _ rfl; have j5 := hS2 5 _ rfl; have k6 := hS1 6 _ rfl; have j6 := hS2 6 _ rfl; have k7 := hS1 7 _ rfl; have j7 := hS2 7 _ rfl; have k8 := hS1 8 _ rfl; have j8 := hS2 8 _ rfl; have k9 := hS1 9 _ rfl; have j9 := hS2 9 _ rfl; clear hS1 hS2; (try simp only [Nat.add_zero] at k0 j0); go_simp) <;> (with_reducible rfl)
          try simp only [Act.put, List.setIfInBounds_toArray, List.set_cons_zero, List.set_cons_succ]
          refine wpAnyH_take (i := 18) (oi := ⟨some 34, _, _, _, _, _⟩) (v := ?_) rfl (by kernel_rfl) (by kernel_rfl) (by kernel_rfl) (fun _ _ _ h => h) (Or.inl ⟨by rfl, ?_⟩) (by assumption) ?_
          rotate_left 1
          · (intro w hSw; (try dsimp only at hSw); obtain ⟨hS1, hS2⟩ := hSw; have k0 := hS1 0 _ rfl; have j0 := hS2 0 _ rfl; have k1 := hS1 1 _ rfl; have j1 := hS2 1 _ rfl; have k2 := hS1 2 _ rfl; have j2 := hS2 2 _ rfl; have k3 := hS1 3 _ rfl; have j3 := hS2 3 _ rfl; have k4 := hS1 4 _ rfl; have j4 := hS2 4 _ rfl; have k5 := hS1 5 _ rfl; have j5 := hS2 5 _ rfl; have k6 := hS1 6 _ rfl; have j6 := hS2 6 _ rfl; have k7 := hS1 7 _ rfl; have j7 := hS2 7 _ rfl; have k8 := hS1 8 _ rfl; have j8 := hS2 8 _ rfl; have k9 := hS1 9 _ rfl; have j9 := hS2 9 _ rfl; clear hS1 hS2; (try simp only [Nat.add_zero] at k0 j0); go_simp) <;> (with_reducible rfl)
          try simp only [Act.put, List.setIfInBounds_toArray, List.set_cons_zero, List.set_cons_succ]
          refine wpAnyH_done (by kernel_rfl) ?_ _
          cases b2 with
          | true =>
            have HY := Lib.hid (HNX.out HYS.out)
            go_wp2_with fail
            go_roundw
            case rel => exact ⟨k + 1, by omega, by go_num, HY, HFR.out.trans HF2.out⟩
            case measure => simp [intOf]; omega
          | false =>
            have HQ := Lib.hid (HNO.out HYS.out)
            go_wp2_with fail
            go_ret
            exact ⟨ret_bool HQ.out.symm, HFR.out.trans HF2.out⟩
      · have hkn : k = n := by omega
        subst hkn
        have HZ := Lib.hid (firstAt_yes HSB.out.symm HE.out)
        have i3 : (k : Int) ≤ (k : Int) := by omega
        go_wp2_with fail
        go_ret
        exact ⟨ret_bool HZ.out.symm, HFR.out⟩
end Go.Proofs.Ytdgjjkmgdjiliaa
