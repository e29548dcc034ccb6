/- The document's link: Receive. Conditions: it lies in blocks of its own; few data wait. -/
import Derived.Test.YtchlafhmoncldaaRw
import Derived.Deep.CutBlock
namespace Go.Proofs.Ytchlafhmoncldaa
open Go.RowKit Go.Maps Go.ChangeMaps Go.MapKept Go.WideShapes

theorem cut1 {M : Nat → Prop} {W : World} {b o : Nat} {xs : List Value} (h : Rdm M W (some ⟨b, o, none⟩) xs) {co : Nat} (hl : 1 ≤ xs.length) (hc : xs.length ≤ co) : Rdm M W (if co = 1 then some ⟨b, o, none⟩ else some ⟨b, o + 1, none⟩) (xs.drop 1) := by
  have h1 := h.rd.cut hl hc
  refine ⟨?_, fun hp k hk => h.mem (by omega) k ?_⟩
  · by_cases e : co = 1
    · rw [if_pos e] at h1 ⊢
      exact h1
    · rw [if_neg e] at h1 ⊢
      exact h1
  · obtain ⟨a, ha, rfl⟩ := hk
    split at ha <;> (injection ha with ha; subst ha; exact ⟨_, rfl, rfl⟩)
theorem next_rk (Rm : Rk) (a a' : Option Addr) (k : Nat) : ({ ({ Rm with ao := a, co := Rm.co - k, outs := Rm.outs.drop k, ba := (Rm.ba + k) % 2 ^ 64 } : Rk) with ao := a', co := Rm.co - k - 1, outs := (Rm.outs.drop k).drop 1, ba := ((Rm.ba + k) % 2 ^ 64 + 1) % 2 ^ 64 } : Rk) = { Rm with ao := a', co := Rm.co - (k + 1), outs := Rm.outs.drop (k + 1), ba := (Rm.ba + (k + 1)) % 2 ^ 64 } := by
  simp only [Rk.mk.injEq, List.drop_drop, true_and, and_true]
  omega
/-- how many data are out. -/
def lenAt (w : World) (m : Nat) : Nat := match w.cell? ⟨m, 4, none⟩ with
  | some (.slice _ n _) => n
  | _ => 0
/-- how many data wait. -/
def waitAt (w : World) (m : Nat) : Nat := match w.cell? ⟨m, 5, none⟩ with
  | some (.slice _ n _) => n
  | _ => 0
set_option maxRecDepth 100000 in
set_option maxHeartbeats 16000000 in
theorem rrec_any (W : World) (M : Nat → Prop) (m : Nat) (R : Rk) (h : RkIn M W m R) (P : Pk) (hep : P.ep < 2 ^ 64) (hsq : P.sq < 2 ^ 64) (hak : P.ak < 2 ^ 64) (hr : Rd W P.d.1 (cb P.d.2.2)) (hA : P.d.1 = none → P.d.2.1 = 0) (hd : P.d.2.2.length ≤ 1000000) (hn : R.ers.length < 1000) (hx : R.ex < 2 ^ 63) :
    Calls Try.prog 15 #[.pointer (some ⟨m, 0, none⟩), .agg #[.int .u64 (P.ep : Int), .int .u64 (P.pe : Int), .int .u64 (P.sq : Int), .int .u64 (P.ak : Int), .slice P.d.1 P.d.2.2.length P.d.2.1]] W (RRecPost M W m R P) := by
  have HR := Lib.hid h
  have HNU : Hid (P.ep < 2 ^ 64 ∧ P.sq < 2 ^ 64 ∧ P.ak < 2 ^ 64 ∧ R.ers.length < 1000 ∧ R.ex < 2 ^ 63) := ⟨hep, hsq, hak, hn, hx⟩
  have HPD : Hid (Rd W P.d.1 (cb P.d.2.2) ∧ (P.d.1 = none → P.d.2.1 = 0) ∧ P.d.2.2.length ≤ 1000000) := ⟨hr, hA, hd⟩
  have HPOST : Hid (∀ A c qs B c' ys M' R' W', RkIn M' W' m R' → Fr (fun k => k = m) W W' → (∀ k, M' k → M k ∨ W.heap.size ≤ k) → RowRd W' A qs → PkRd W' B ys → RecV (rv R) P (qs.map (·.2.2)) (ys.map pkd) (rv R') → RRecPost M W m R P (.returned (.tuple #[.slice A qs.length c, .slice B ys.length c'])) W') := fun A c qs B c' ys M' R' W' h1 h2 h3 h4 h5 h6 => ⟨A, c, qs, B, c', ys, M', R', rfl, h1, h2, h3, h4, h5, h6⟩
  have HRV : Hid (∀ ds ys V', RecV (rv R) P ds ys V' = if P.ep = 0 ∨ P.ep < (rv R).pe then ds = [] ∧ ys = [] ∧ V' = rv R
    else if P.pe ≠ (rv R).ep then ds = [] ∧ ys = [ansV (metV (rv R) P.ep)] ∧ V' = metV (rv R) P.ep
    else if P.sq = 0 then ds = [] ∧ ys = [] ∧ AckV (metV (rv R) P.ep) P.ak V'
    else ∃ V1 V2, AckV (metV (rv R) P.ep) P.ak V1 ∧ AddV V1 P.sq P.d.2.2 V2 ∧ DrV V2 ds V' ∧ (∀ x ∈ V'.ers, x.1 ≠ V'.ex) ∧ ys = [ansV V']) := fun _ _ _ => rfl
  obtain ⟨gb, hgb⟩ : ∃ gb, gb = W.heap.size := ⟨_, rfl⟩
  obtain ⟨w0, hw0⟩ : ∃ w0, w0 = W.alloc (.cells #[.int .u64 (P.ep : Int), .int .u64 (P.pe : Int), .int .u64 (P.sq : Int), .int .u64 (P.ak : Int), .slice P.d.1 P.d.2.2.length P.d.2.1] 32) := ⟨_, rfl⟩
  have HF0 : Hid (Fr NoBlk W w0) := by show Fr _ _ _; rw [hw0]; exact (Fr.refl _ _).alloc _
  have HB0 : Hid (Bk w0 gb 32 (pka P)) := by show Bk _ _ _ _; rw [hw0, hgb]; exact Bk.new _ _ _
  obtain ⟨gp, hgp⟩ : ∃ gp, gp = w0.heap.size := ⟨_, rfl⟩
  obtain ⟨gc, hgc⟩ : ∃ gc, gc = gp + 1 := ⟨_, rfl⟩
  obtain ⟨w1, hw1⟩ : ∃ w1, w1 = (w0.alloc (.cells #[] 32)).alloc (.cells #[] 30) := ⟨_, rfl⟩
  have HF01 : Hid (Fr NoBlk w0 w1) := by show Fr _ _ _; rw [hw1]; exact ((Fr.refl _ _).alloc _).alloc _
  have HF1 : Hid (Fr NoBlk W w1) := HF0.out.trans HF01.out
  have HB1 : Hid (Bk w1 gb 32 (pka P)) := HB0.out.fr HF01.out (fun h => h)
  have HR1 : Hid (RkIn M w1 m R) := HR.out.nofr HF1.out
  have HC1 : Hid (w1.ownsRow W.heap.size 30 1 (.slice (some ⟨gc, 0, none⟩) 0 0) 0 []) := by
    show World.ownsRow _ _ _ _ _ _ _
    rw [hw1]
    exact own_new (by simp; omega) (by have := HF0.out.size; simp; omega)
  have HGB : Hid (gb = W.heap.size) := hgb
  have HMB : Hid (m < gb) := by show _ < _; have := h.bk.lt; omega
  clear h hep hsq hak hr hA hd hn hx
  have HSKw1 : Hid (∀ w', Fr NoBlk w1 w' → ((w'.cell? ⟨gb, 0, none⟩ = some (.int .u64 (P.ep : Int)) ∧ w'.cell? ⟨gb, 1, none⟩ = some (.int .u64 (P.pe : Int)) ∧ w'.cell? ⟨gb, 2, none⟩ = some (.int .u64 (P.sq : Int)) ∧ w'.cell? ⟨gb, 3, none⟩ = some (.int .u64 (P.ak : Int)) ∧ w'.cell? ⟨gb, 4, none⟩ = some (.slice P.d.1 P.d.2.2.length P.d.2.1)) ∧ (w'.cell? ⟨m, 0, none⟩ = some (.int .u64 (R.ep : Int)) ∧ w'.cell? ⟨m, 1, none⟩ = some (.int .u64 (R.pe : Int)) ∧ w'.cell? ⟨m, 2, none⟩ = some (.int .u64 (R.ba : Int)) ∧ w'.cell? ⟨m, 3, none⟩ = some (.int .u64 (R.ex : Int)) ∧ w'.cell? ⟨m, 4, none⟩ = some (.slice R.ao R.outs.length R.co) ∧ w'.cell? ⟨m, 5, none⟩ = some (.slice R.ae R.ers.length R.ce)))) := fun w' hf => by
    have hb := HB1.out.fr hf (fun h => h)
    exact ⟨⟨hb.cell 0, hb.cell 1, hb.cell 2, hb.cell 3, hb.cell 4⟩, (HR1.out.nofr hf).cells⟩
  go_enter Try.func15, Try.ntmps15
  go_upto_region 1 with fail
  rw [← hw0, ← hgb]
  clear hw0 hgb
  go_upto_region 2 with fail
  rw [← hw1, ← hgp, ← hgc]
  clear hw1 hgp hgc
  by_cases hz : P.ep = 0
  · have q1 : ((P.ep : Int) == 0) = true := by simp [hz]
    have HH : Hid (P.ep = 0 ∨ P.ep < (rv R).pe) := .inl hz
    clear hz
    refine wp_region_held_drew (S := fun w' => Fr NoBlk w1 w') (by kernel_rfl) (by exact (Fr.refl NoBlk w1).drew) (fun hHeld => ?_)
    refine wpAnyH_take (i := 0) (oi := ⟨some 11, _, _, _, _, _⟩) (v := ?_) rfl (by kernel_rfl) (by kernel_rfl) (by kernel_rfl) (fun _ _ _ h => h) (Or.inl ⟨by rfl, ?_⟩) (by assumption) ?_
    rotate_left 1
    · (intro w hSw; (try dsimp only at hSw); obtain ⟨⟨p0, p1, p2, p3, p4⟩, r0, r1, r2, r3, r4, r5⟩ := HSKw1.out _ hSw; go_simp) <;> (with_reducible rfl)
    try simp only [Act.put, List.setIfInBounds_toArray, List.set_cons_zero, List.set_cons_succ]
    refine wpAnyH_take (i := 1) (oi := ⟨some 12, _, _, _, _, _⟩) (v := ?_) rfl (by kernel_rfl) (by kernel_rfl) (by kernel_rfl) (fun _ _ _ h => h) (Or.inl ⟨by rfl, ?_⟩) (by assumption) ?_
    rotate_left 1
    · (intro w hSw; (try dsimp only at hSw); obtain ⟨⟨p0, p1, p2, p3, p4⟩, r0, r1, r2, r3, r4, r5⟩ := HSKw1.out _ hSw; go_simp) <;> (with_reducible rfl)
    try simp only [Act.put, List.setIfInBounds_toArray, List.set_cons_zero, List.set_cons_succ]
    refine wpAnyH_take (i := 2) (oi := ⟨some 13, _, _, _, _, _⟩) (v := ?_) rfl (by kernel_rfl) (by kernel_rfl) (by kernel_rfl) (fun _ _ _ h => h) (Or.inl ⟨by rfl, ?_⟩) (by assumption) ?_
    rotate_left 1
    · (intro w hSw; (try dsimp only at hSw); obtain ⟨⟨p0, p1, p2, p3, p4⟩, r0, r1, r2, r3, r4, r5⟩ := HSKw1.out _ hSw; go_simp) <;> (with_reducible rfl)
    try simp only [Act.put, List.setIfInBounds_toArray, List.set_cons_zero, List.set_cons_succ]
    refine wpAnyH_take (i := 3) (oi := ⟨some 14, _, _, _, _, _⟩) (v := ?_) rfl (by kernel_rfl) (by kernel_rfl) (by kernel_rfl) (fun _ _ _ h => h) (Or.inl ⟨by rfl, ?_⟩) (by assumption) ?_
    rotate_left 1
    · (intro w hSw; (try dsimp only at hSw); obtain ⟨⟨p0, p1, p2, p3, p4⟩, r0, r1, r2, r3, r4, r5⟩ := HSKw1.out _ hSw; go_simp) <;> (with_reducible rfl)
    try simp only [Act.put, List.setIfInBounds_toArray, List.set_cons_zero, List.set_cons_succ]
    refine wpAnyH_take (i := 4) (oi := ⟨some 15, _, _, _, _, _⟩) (v := undef) rfl (by kernel_rfl) (by kernel_rfl) (by kernel_rfl) (fun _ _ _ h => h) (Or.inr ⟨by rfl, rfl⟩) (by assumption) ?_
    try simp only [Act.put, List.setIfInBounds_toArray, List.set_cons_zero, List.set_cons_succ]
    refine wpAnyH_take (i := 5) (oi := ⟨some 16, _, _, _, _, _⟩) (v := undef) rfl (by kernel_rfl) (by kernel_rfl) (by kernel_rfl) (fun _ _ _ h => h) (Or.inr ⟨by rfl, rfl⟩) (by assumption) ?_
    try simp only [Act.put, List.setIfInBounds_toArray, List.set_cons_zero, List.set_cons_succ]
    refine wpAnyH_take (i := 6) (oi := ⟨some 17, _, _, _, _, _⟩) (v := undef) rfl (by kernel_rfl) (by kernel_rfl) (by kernel_rfl) (fun _ _ _ h => h) (Or.inr ⟨by rfl, rfl⟩) (by assumption) ?_
    try simp only [Act.put, List.setIfInBounds_toArray, List.set_cons_zero, List.set_cons_succ]
    refine wpAnyH_take (i := 7) (oi := ⟨some 18, _, _, _, _, _⟩) (v := undef) rfl (by kernel_rfl) (by kernel_rfl) (by kernel_rfl) (fun _ _ _ h => h) (Or.inr ⟨by rfl, rfl⟩) (by assumption) ?_
    try simp only [Act.put, List.setIfInBounds_toArray, List.set_cons_zero, List.set_cons_succ]
    refine wpAnyH_take (i := 8) (oi := ⟨some 19, _, _, _, _, _⟩) (v := undef) rfl (by kernel_rfl) (by kernel_rfl) (by kernel_rfl) (fun _ _ _ h => h) (Or.inr ⟨by rfl, rfl⟩) (by assumption) ?_
    try simp only [Act.put, List.setIfInBounds_toArray, List.set_cons_zero, List.set_cons_succ]
    refine wpAnyH_take (i := 9) (oi := ⟨some 20, _, _, _, _, _⟩) (v := undef) rfl (by kernel_rfl) (by kernel_rfl) (by kernel_rfl) (fun _ _ _ h => h) (Or.inr ⟨by rfl, rfl⟩) (by assumption) ?_
    try simp only [Act.put, List.setIfInBounds_toArray, List.set_cons_zero, List.set_cons_succ]
    refine wpAnyH_take (i := 10) (oi := ⟨some 21, _, _, _, _, _⟩) (v := undef) rfl (by kernel_rfl) (by kernel_rfl) (by kernel_rfl) (fun _ _ _ h => h) (Or.inr ⟨by rfl, rfl⟩) (by assumption) ?_
    try simp only [Act.put, List.setIfInBounds_toArray, List.set_cons_zero, List.set_cons_succ]
    refine wpAnyH_take (i := 11) (oi := ⟨some 22, _, _, _, _, _⟩) (v := ?_) rfl (by kernel_rfl) (by kernel_rfl) (by kernel_rfl) (fun _ _ _ h => h) (Or.inl ⟨by rfl, ?_⟩) (by assumption) ?_
    rotate_left 1
    · (intro w hSw; (try dsimp only at hSw); obtain ⟨⟨p0, p1, p2, p3, p4⟩, r0, r1, r2, r3, r4, r5⟩ := HSKw1.out _ hSw; go_simp) <;> (with_reducible rfl)
    try simp only [Act.put, List.setIfInBounds_toArray, List.set_cons_zero, List.set_cons_succ]
    refine wpAnyH_done (by kernel_rfl) ?_ _
    clear hHeld
    obtain ⟨y, hy⟩ : ∃ y, y = w1.drew := ⟨_, rfl⟩
    have HFy : Hid (Fr NoBlk w1 y) := by show Fr _ _ _; rw [hy]; exact (Fr.refl NoBlk _).drew
    rw [← hy]
    clear hy
    go_wp2_with fail
    refine bodyPost_ret (results_tmp2 rfl _ _ _) rfl ?_
    exact HPOST.out (some ⟨gc, 0, none⟩) 0 [] (some ⟨gp, 0, none⟩) 0 [] M R _ ((HR1.out.nofr HFy.out)) ((HF1.out.trans HFy.out).mono fun _ _ h => h.elim) (fun _ h => .inl h) ⟨Rd.nil_ _ _, (fun _ h => by cases h), by simp⟩ ⟨Rd.nil_ _ _, (fun _ h => by cases h), by simp⟩ (by rw [HRV.out, if_pos HH.out]; exact ⟨rfl, rfl, rfl⟩)
  have q1 : ((P.ep : Int) == 0) = false := beq_eq_false_iff_ne.2 (by omega)
  by_cases hlt : P.ep < R.pe
  · have q2 : decide ((P.ep : Int) < (R.pe : Int)) = true := by simp; omega
    have q3 : decide (P.ep < R.pe) = true := by simp; omega
    have q4 : P.ep < R.pe := hlt
    have HH : Hid (P.ep = 0 ∨ P.ep < (rv R).pe) := .inr hlt
    clear hz hlt
    refine wp_region_held_drew (S := fun w' => Fr NoBlk w1 w') (by kernel_rfl) (by exact (Fr.refl NoBlk w1).drew) (fun hHeld => ?_)
    refine wpAnyH_take (i := 0) (oi := ⟨some 11, _, _, _, _, _⟩) (v := ?_) rfl (by kernel_rfl) (by kernel_rfl) (by kernel_rfl) (fun _ _ _ h => h) (Or.inl ⟨by rfl, ?_⟩) (by assumption) ?_
    rotate_left 1
    · (intro w hSw; (try dsimp only at hSw); obtain ⟨⟨p0, p1, p2, p3, p4⟩, r0, r1, r2, r3, r4, r5⟩ := HSKw1.out _ hSw; go_simp) <;> (with_reducible rfl)
    try simp only [Act.put, List.setIfInBounds_toArray, List.set_cons_zero, List.set_cons_succ]
    refine wpAnyH_take (i := 1) (oi := ⟨some 12, _, _, _, _, _⟩) (v := ?_) rfl (by kernel_rfl) (by kernel_rfl) (by kernel_rfl) (fun _ _ _ h => h) (Or.inl ⟨by rfl, ?_⟩) (by assumption) ?_
    rotate_left 1
    · (intro w hSw; (try dsimp only at hSw); obtain ⟨⟨p0, p1, p2, p3, p4⟩, r0, r1, r2, r3, r4, r5⟩ := HSKw1.out _ hSw; go_simp) <;> (with_reducible rfl)
    try simp only [Act.put, List.setIfInBounds_toArray, List.set_cons_zero, List.set_cons_succ]
    refine wpAnyH_take (i := 2) (oi := ⟨some 13, _, _, _, _, _⟩) (v := ?_) rfl (by kernel_rfl) (by kernel_rfl) (by kernel_rfl) (fun _ _ _ h => h) (Or.inl ⟨by rfl, ?_⟩) (by assumption) ?_
    rotate_left 1
    · (intro w hSw; (try dsimp only at hSw); obtain ⟨⟨p0, p1, p2, p3, p4⟩, r0, r1, r2, r3, r4, r5⟩ := HSKw1.out _ hSw; go_simp) <;> (with_reducible rfl)
    try simp only [Act.put, List.setIfInBounds_toArray, List.set_cons_zero, List.set_cons_succ]
    refine wpAnyH_take (i := 3) (oi := ⟨some 14, _, _, _, _, _⟩) (v := ?_) rfl (by kernel_rfl) (by kernel_rfl) (by kernel_rfl) (fun _ _ _ h => h) (Or.inl ⟨by rfl, ?_⟩) (by assumption) ?_
    rotate_left 1
    · (intro w hSw; (try dsimp only at hSw); obtain ⟨⟨p0, p1, p2, p3, p4⟩, r0, r1, r2, r3, r4, r5⟩ := HSKw1.out _ hSw; go_simp) <;> (with_reducible rfl)
    try simp only [Act.put, List.setIfInBounds_toArray, List.set_cons_zero, List.set_cons_succ]
    refine wpAnyH_take (i := 4) (oi := ⟨some 15, _, _, _, _, _⟩) (v := ?_) rfl (by kernel_rfl) (by kernel_rfl) (by kernel_rfl) (fun _ _ _ h => h) (Or.inl ⟨by rfl, ?_⟩) (by assumption) ?_
    rotate_left 1
    · (intro w hSw; (try dsimp only at hSw); obtain ⟨⟨p0, p1, p2, p3, p4⟩, r0, r1, r2, r3, r4, r5⟩ := HSKw1.out _ hSw; go_simp) <;> (with_reducible rfl)
    try simp only [Act.put, List.setIfInBounds_toArray, List.set_cons_zero, List.set_cons_succ]
    refine wpAnyH_take (i := 5) (oi := ⟨some 16, _, _, _, _, _⟩) (v := ?_) rfl (by kernel_rfl) (by kernel_rfl) (by kernel_rfl) (fun _ _ _ h => h) (Or.inl ⟨by rfl, ?_⟩) (by assumption) ?_
    rotate_left 1
    · (intro w hSw; (try dsimp only at hSw); obtain ⟨⟨p0, p1, p2, p3, p4⟩, r0, r1, r2, r3, r4, r5⟩ := HSKw1.out _ hSw; go_simp) <;> (with_reducible rfl)
    try simp only [Act.put, List.setIfInBounds_toArray, List.set_cons_zero, List.set_cons_succ]
    refine wpAnyH_take (i := 6) (oi := ⟨some 17, _, _, _, _, _⟩) (v := ?_) rfl (by kernel_rfl) (by kernel_rfl) (by kernel_rfl) (fun _ _ _ h => h) (Or.inl ⟨by rfl, ?_⟩) (by assumption) ?_
    rotate_left 1
    · (intro w hSw; (try dsimp only at hSw); obtain ⟨⟨p0, p1, p2, p3, p4⟩, r0, r1, r2, r3, r4, r5⟩ := HSKw1.out _ hSw; go_simp) <;> (with_reducible rfl)
    try simp only [Act.put, List.setIfInBounds_toArray, List.set_cons_zero, List.set_cons_succ]
    refine wpAnyH_take (i := 7) (oi := ⟨some 18, _, _, _, _, _⟩) (v := ?_) rfl (by kernel_rfl) (by kernel_rfl) (by kernel_rfl) (fun _ _ _ h => h) (Or.inl ⟨by rfl, ?_⟩) (by assumption) ?_
    rotate_left 1
    · (intro w hSw; (try dsimp only at hSw); obtain ⟨⟨p0, p1, p2, p3, p4⟩, r0, r1, r2, r3, r4, r5⟩ := HSKw1.out _ hSw; go_simp) <;> (with_reducible rfl)
    try simp only [Act.put, List.setIfInBounds_toArray, List.set_cons_zero, List.set_cons_succ]
    refine wpAnyH_take (i := 8) (oi := ⟨some 19, _, _, _, _, _⟩) (v := ?_) rfl (by kernel_rfl) (by kernel_rfl) (by kernel_rfl) (fun _ _ _ h => h) (Or.inl ⟨by rfl, ?_⟩) (by assumption) ?_
    rotate_left 1
    · (intro w hSw; (try dsimp only at hSw); obtain ⟨⟨p0, p1, p2, p3, p4⟩, r0, r1, r2, r3, r4, r5⟩ := HSKw1.out _ hSw; go_simp) <;> (with_reducible rfl)
    try simp only [Act.put, List.setIfInBounds_toArray, List.set_cons_zero, List.set_cons_succ]
    refine wpAnyH_take (i := 9) (oi := ⟨some 20, _, _, _, _, _⟩) (v := ?_) rfl (by kernel_rfl) (by kernel_rfl) (by kernel_rfl) (fun _ _ _ h => h) (Or.inl ⟨by rfl, ?_⟩) (by assumption) ?_
    rotate_left 1
    · (intro w hSw; (try dsimp only at hSw); obtain ⟨⟨p0, p1, p2, p3, p4⟩, r0, r1, r2, r3, r4, r5⟩ := HSKw1.out _ hSw; go_simp) <;> (with_reducible rfl)
    try simp only [Act.put, List.setIfInBounds_toArray, List.set_cons_zero, List.set_cons_succ]
    refine wpAnyH_take (i := 10) (oi := ⟨some 21, _, _, _, _, _⟩) (v := ?_) rfl (by kernel_rfl) (by kernel_rfl) (by kernel_rfl) (fun _ _ _ h => h) (Or.inl ⟨by rfl, ?_⟩) (by assumption) ?_
    rotate_left 1
    · (intro w hSw; (try dsimp only at hSw); obtain ⟨⟨p0, p1, p2, p3, p4⟩, r0, r1, r2, r3, r4, r5⟩ := HSKw1.out _ hSw; go_simp) <;> (with_reducible rfl)
    try simp only [Act.put, List.setIfInBounds_toArray, List.set_cons_zero, List.set_cons_succ]
    refine wpAnyH_take (i := 11) (oi := ⟨some 22, _, _, _, _, _⟩) (v := ?_) rfl (by kernel_rfl) (by kernel_rfl) (by kernel_rfl) (fun _ _ _ h => h) (Or.inl ⟨by rfl, ?_⟩) (by assumption) ?_
    rotate_left 1
    · (intro w hSw; (try dsimp only at hSw); obtain ⟨⟨p0, p1, p2, p3, p4⟩, r0, r1, r2, r3, r4, r5⟩ := HSKw1.out _ hSw; go_simp) <;> (with_reducible rfl)
    try simp only [Act.put, List.setIfInBounds_toArray, List.set_cons_zero, List.set_cons_succ]
    refine wpAnyH_done (by kernel_rfl) ?_ _
    clear hHeld
    obtain ⟨y, hy⟩ : ∃ y, y = w1.drew := ⟨_, rfl⟩
    have HFy : Hid (Fr NoBlk w1 y) := by show Fr _ _ _; rw [hy]; exact (Fr.refl NoBlk _).drew
    rw [← hy]
    clear hy
    go_wp2_with fail
    refine bodyPost_ret (results_tmp2 rfl _ _ _) rfl ?_
    exact HPOST.out (some ⟨gc, 0, none⟩) 0 [] (some ⟨gp, 0, none⟩) 0 [] M R _ ((HR1.out.nofr HFy.out)) ((HF1.out.trans HFy.out).mono fun _ _ h => h.elim) (fun _ h => .inl h) ⟨Rd.nil_ _ _, (fun _ h => by cases h), by simp⟩ ⟨Rd.nil_ _ _, (fun _ h => by cases h), by simp⟩ (by rw [HRV.out, if_pos HH.out]; exact ⟨rfl, rfl, rfl⟩)
  have q2 : decide ((P.ep : Int) < (R.pe : Int)) = false := by simp; omega
  have q3 : decide (P.ep < R.pe) = false := by simp; omega
  have q4 : ¬ P.ep < R.pe := hlt
  have HH : Hid (¬ (P.ep = 0 ∨ P.ep < (rv R).pe)) := by rintro (e | e); exact hz e; exact hlt e
  clear hz hlt
  refine wp_region_held_drew (S := fun w' => Fr NoBlk w1 w') (by kernel_rfl) (by exact (Fr.refl NoBlk w1).drew) (fun hHeld => ?_)
  refine wpAnyH_take (i := 0) (oi := ⟨some 11, _, _, _, _, _⟩) (v := ?_) rfl (by kernel_rfl) (by kernel_rfl) (by kernel_rfl) (fun _ _ _ h => h) (Or.inl ⟨by rfl, ?_⟩) (by assumption) ?_
  rotate_left 1
  · (intro w hSw; (try dsimp only at hSw); obtain ⟨⟨p0, p1, p2, p3, p4⟩, r0, r1, r2, r3, r4, r5⟩ := HSKw1.out _ hSw; go_simp) <;> (with_reducible rfl)
  try simp only [Act.put, List.setIfInBounds_toArray, List.set_cons_zero, List.set_cons_succ]
  refine wpAnyH_take (i := 1) (oi := ⟨some 12, _, _, _, _, _⟩) (v := ?_) rfl (by kernel_rfl) (by kernel_rfl) (by kernel_rfl) (fun _ _ _ h => h) (Or.inl ⟨by rfl, ?_⟩) (by assumption) ?_
  rotate_left 1
  · (intro w hSw; (try dsimp only at hSw); obtain ⟨⟨p0, p1, p2, p3, p4⟩, r0, r1, r2, r3, r4, r5⟩ := HSKw1.out _ hSw; go_simp) <;> (with_reducible rfl)
  try simp only [Act.put, List.setIfInBounds_toArray, List.set_cons_zero, List.set_cons_succ]
  refine wpAnyH_take (i := 2) (oi := ⟨some 13, _, _, _, _, _⟩) (v := ?_) rfl (by kernel_rfl) (by kernel_rfl) (by kernel_rfl) (fun _ _ _ h => h) (Or.inl ⟨by rfl, ?_⟩) (by assumption) ?_
  rotate_left 1
  · (intro w hSw; (try dsimp only at hSw); obtain ⟨⟨p0, p1, p2, p3, p4⟩, r0, r1, r2, r3, r4, r5⟩ := HSKw1.out _ hSw; go_simp) <;> (with_reducible rfl)
  try simp only [Act.put, List.setIfInBounds_toArray, List.set_cons_zero, List.set_cons_succ]
  refine wpAnyH_take (i := 3) (oi := ⟨some 14, _, _, _, _, _⟩) (v := ?_) rfl (by kernel_rfl) (by kernel_rfl) (by kernel_rfl) (fun _ _ _ h => h) (Or.inl ⟨by rfl, ?_⟩) (by assumption) ?_
  rotate_left 1
  · (intro w hSw; (try dsimp only at hSw); obtain ⟨⟨p0, p1, p2, p3, p4⟩, r0, r1, r2, r3, r4, r5⟩ := HSKw1.out _ hSw; go_simp) <;> (with_reducible rfl)
  try simp only [Act.put, List.setIfInBounds_toArray, List.set_cons_zero, List.set_cons_succ]
  refine wpAnyH_take (i := 4) (oi := ⟨some 15, _, _, _, _, _⟩) (v := ?_) rfl (by kernel_rfl) (by kernel_rfl) (by kernel_rfl) (fun _ _ _ h => h) (Or.inl ⟨by rfl, ?_⟩) (by assumption) ?_
  rotate_left 1
  · (intro w hSw; (try dsimp only at hSw); obtain ⟨⟨p0, p1, p2, p3, p4⟩, r0, r1, r2, r3, r4, r5⟩ := HSKw1.out _ hSw; go_simp) <;> (with_reducible rfl)
  try simp only [Act.put, List.setIfInBounds_toArray, List.set_cons_zero, List.set_cons_succ]
  refine wpAnyH_take (i := 5) (oi := ⟨some 16, _, _, _, _, _⟩) (v := ?_) rfl (by kernel_rfl) (by kernel_rfl) (by kernel_rfl) (fun _ _ _ h => h) (Or.inl ⟨by rfl, ?_⟩) (by assumption) ?_
  rotate_left 1
  · (intro w hSw; (try dsimp only at hSw); obtain ⟨⟨p0, p1, p2, p3, p4⟩, r0, r1, r2, r3, r4, r5⟩ := HSKw1.out _ hSw; go_simp) <;> (with_reducible rfl)
  try simp only [Act.put, List.setIfInBounds_toArray, List.set_cons_zero, List.set_cons_succ]
  refine wpAnyH_take (i := 6) (oi := ⟨some 17, _, _, _, _, _⟩) (v := ?_) rfl (by kernel_rfl) (by kernel_rfl) (by kernel_rfl) (fun _ _ _ h => h) (Or.inl ⟨by rfl, ?_⟩) (by assumption) ?_
  rotate_left 1
  · (intro w hSw; (try dsimp only at hSw); obtain ⟨⟨p0, p1, p2, p3, p4⟩, r0, r1, r2, r3, r4, r5⟩ := HSKw1.out _ hSw; go_simp) <;> (with_reducible rfl)
  try simp only [Act.put, List.setIfInBounds_toArray, List.set_cons_zero, List.set_cons_succ]
  refine wpAnyH_take (i := 7) (oi := ⟨some 18, _, _, _, _, _⟩) (v := ?_) rfl (by kernel_rfl) (by kernel_rfl) (by kernel_rfl) (fun _ _ _ h => h) (Or.inl ⟨by rfl, ?_⟩) (by assumption) ?_
  rotate_left 1
  · (intro w hSw; (try dsimp only at hSw); obtain ⟨⟨p0, p1, p2, p3, p4⟩, r0, r1, r2, r3, r4, r5⟩ := HSKw1.out _ hSw; go_simp) <;> (with_reducible rfl)
  try simp only [Act.put, List.setIfInBounds_toArray, List.set_cons_zero, List.set_cons_succ]
  refine wpAnyH_take (i := 8) (oi := ⟨some 19, _, _, _, _, _⟩) (v := ?_) rfl (by kernel_rfl) (by kernel_rfl) (by kernel_rfl) (fun _ _ _ h => h) (Or.inl ⟨by rfl, ?_⟩) (by assumption) ?_
  rotate_left 1
  · (intro w hSw; (try dsimp only at hSw); obtain ⟨⟨p0, p1, p2, p3, p4⟩, r0, r1, r2, r3, r4, r5⟩ := HSKw1.out _ hSw; go_simp) <;> (with_reducible rfl)
  try simp only [Act.put, List.setIfInBounds_toArray, List.set_cons_zero, List.set_cons_succ]
  refine wpAnyH_take (i := 9) (oi := ⟨some 20, _, _, _, _, _⟩) (v := ?_) rfl (by kernel_rfl) (by kernel_rfl) (by kernel_rfl) (fun _ _ _ h => h) (Or.inl ⟨by rfl, ?_⟩) (by assumption) ?_
  rotate_left 1
  · (intro w hSw; (try dsimp only at hSw); obtain ⟨⟨p0, p1, p2, p3, p4⟩, r0, r1, r2, r3, r4, r5⟩ := HSKw1.out _ hSw; go_simp) <;> (with_reducible rfl)
  try simp only [Act.put, List.setIfInBounds_toArray, List.set_cons_zero, List.set_cons_succ]
  refine wpAnyH_take (i := 10) (oi := ⟨some 21, _, _, _, _, _⟩) (v := ?_) rfl (by kernel_rfl) (by kernel_rfl) (by kernel_rfl) (fun _ _ _ h => h) (Or.inl ⟨by rfl, ?_⟩) (by assumption) ?_
  rotate_left 1
  · (intro w hSw; (try dsimp only at hSw); obtain ⟨⟨p0, p1, p2, p3, p4⟩, r0, r1, r2, r3, r4, r5⟩ := HSKw1.out _ hSw; go_simp) <;> (with_reducible rfl)
  try simp only [Act.put, List.setIfInBounds_toArray, List.set_cons_zero, List.set_cons_succ]
  refine wpAnyH_take (i := 11) (oi := ⟨some 22, _, _, _, _, _⟩) (v := ?_) rfl (by kernel_rfl) (by kernel_rfl) (by kernel_rfl) (fun _ _ _ h => h) (Or.inl ⟨by rfl, ?_⟩) (by assumption) ?_
  rotate_left 1
  · (intro w hSw; (try dsimp only at hSw); obtain ⟨⟨p0, p1, p2, p3, p4⟩, r0, r1, r2, r3, r4, r5⟩ := HSKw1.out _ hSw; go_simp) <;> (with_reducible rfl)
  try simp only [Act.put, List.setIfInBounds_toArray, List.set_cons_zero, List.set_cons_succ]
  refine wpAnyH_done (by kernel_rfl) ?_ _
  clear hHeld
  obtain ⟨y, hy⟩ : ∃ y, y = w1.drew := ⟨_, rfl⟩
  have HFy : Hid (Fr NoBlk w1 y) := by show Fr _ _ _; rw [hy]; exact (Fr.refl NoBlk _).drew
  rw [← hy]
  clear hy
  have HBy : Hid (Bk y gb 32 (pka P)) := HB1.out.fr HFy.out (fun h => h)
  have HRy : Hid (RkIn M y m R) := HR1.out.nofr HFy.out
  have HCy : Hid (y.ownsRow W.heap.size 30 1 (.slice (some ⟨gc, 0, none⟩) 0 0) 0 []) := own_fr HC1.out HFy.out (fun _ _ h => h)
  have HFWy : Hid (Fr NoBlk W y) := HF1.out.trans HFy.out
  have HSKy : Hid (∀ w', Fr NoBlk y w' → ((w'.cell? ⟨gb, 0, none⟩ = some (.int .u64 (P.ep : Int)) ∧ w'.cell? ⟨gb, 1, none⟩ = some (.int .u64 (P.pe : Int)) ∧ w'.cell? ⟨gb, 2, none⟩ = some (.int .u64 (P.sq : Int)) ∧ w'.cell? ⟨gb, 3, none⟩ = some (.int .u64 (P.ak : Int)) ∧ w'.cell? ⟨gb, 4, none⟩ = some (.slice P.d.1 P.d.2.2.length P.d.2.1)) ∧ (w'.cell? ⟨m, 0, none⟩ = some (.int .u64 (R.ep : Int)) ∧ w'.cell? ⟨m, 1, none⟩ = some (.int .u64 (R.pe : Int)) ∧ w'.cell? ⟨m, 2, none⟩ = some (.int .u64 (R.ba : Int)) ∧ w'.cell? ⟨m, 3, none⟩ = some (.int .u64 (R.ex : Int)) ∧ w'.cell? ⟨m, 4, none⟩ = some (.slice R.ao R.outs.length R.co) ∧ w'.cell? ⟨m, 5, none⟩ = some (.slice R.ae R.ers.length R.ce)))) := fun w' hf => by
    have hb := HBy.out.fr hf (fun h => h)
    exact ⟨⟨hb.cell 0, hb.cell 1, hb.cell 2, hb.cell 3, hb.cell 4⟩, (HRy.out.nofr hf).cells⟩
  go_upto_region 4 with fail
  clear HSKw1 q1 q2 q3 q4
  refine wp_region_held_drew (S := fun w' => Fr NoBlk y w') (by kernel_rfl) (by exact (Fr.refl NoBlk y).drew) (fun hHeld => ?_)
  refine wpAnyH_take (i := 0) (oi := ⟨some 25, _, _, _, _, _⟩) (v := ?_) rfl (by kernel_rfl) (by kernel_rfl) (by kernel_rfl) (fun _ _ _ h => h) (Or.inl ⟨by rfl, ?_⟩) (by assumption) ?_
  rotate_left 1
  · (intro w hSw; (try dsimp only at hSw); obtain ⟨⟨p0, p1, p2, p3, p4⟩, r0, r1, r2, r3, r4, r5⟩ := HSKy.out _ hSw; go_simp) <;> (with_reducible rfl)
  try simp only [Act.put, List.setIfInBounds_toArray, List.set_cons_zero, List.set_cons_succ]
  refine wpAnyH_take (i := 1) (oi := ⟨some 26, _, _, _, _, _⟩) (v := ?_) rfl (by kernel_rfl) (by kernel_rfl) (by kernel_rfl) (fun _ _ _ h => h) (Or.inl ⟨by rfl, ?_⟩) (by assumption) ?_
  rotate_left 1
  · (intro w hSw; (try dsimp only at hSw); obtain ⟨⟨p0, p1, p2, p3, p4⟩, r0, r1, r2, r3, r4, r5⟩ := HSKy.out _ hSw; go_simp) <;> (with_reducible rfl)
  try simp only [Act.put, List.setIfInBounds_toArray, List.set_cons_zero, List.set_cons_succ]
  refine wpAnyH_take (i := 2) (oi := ⟨some 27, _, _, _, _, _⟩) (v := ?_) rfl (by kernel_rfl) (by kernel_rfl) (by kernel_rfl) (fun _ _ _ h => h) (Or.inl ⟨by rfl, ?_⟩) (by assumption) ?_
  rotate_left 1
  · (intro w hSw; (try dsimp only at hSw); obtain ⟨⟨p0, p1, p2, p3, p4⟩, r0, r1, r2, r3, r4, r5⟩ := HSKy.out _ hSw; go_simp) <;> (with_reducible rfl)
  try simp only [Act.put, List.setIfInBounds_toArray, List.set_cons_zero, List.set_cons_succ]
  refine wpAnyH_take (i := 3) (oi := ⟨some 28, _, _, _, _, _⟩) (v := ?_) rfl (by kernel_rfl) (by kernel_rfl) (by kernel_rfl) (fun _ _ _ h => h) (Or.inl ⟨by rfl, ?_⟩) (by assumption) ?_
  rotate_left 1
  · (intro w hSw; (try dsimp only at hSw); obtain ⟨⟨p0, p1, p2, p3, p4⟩, r0, r1, r2, r3, r4, r5⟩ := HSKy.out _ hSw; go_simp) <;> (with_reducible rfl)
  try simp only [Act.put, List.setIfInBounds_toArray, List.set_cons_zero, List.set_cons_succ]
  refine wpAnyH_take (i := 4) (oi := ⟨some 29, _, _, _, _, _⟩) (v := ?_) rfl (by kernel_rfl) (by kernel_rfl) (by kernel_rfl) (fun _ _ _ h => h) (Or.inl ⟨by rfl, ?_⟩) (by assumption) ?_
  rotate_left 1
  · (intro w hSw; (try dsimp only at hSw); obtain ⟨⟨p0, p1, p2, p3, p4⟩, r0, r1, r2, r3, r4, r5⟩ := HSKy.out _ hSw; go_simp) <;> (with_reducible rfl)
  try simp only [Act.put, List.setIfInBounds_toArray, List.set_cons_zero, List.set_cons_succ]
  refine wpAnyH_take (i := 5) (oi := ⟨some 30, _, _, _, _, _⟩) (v := ?_) rfl (by kernel_rfl) (by kernel_rfl) (by kernel_rfl) (fun _ _ _ h => h) (Or.inl ⟨by rfl, ?_⟩) (by assumption) ?_
  rotate_left 1
  · (intro w hSw; (try dsimp only at hSw); obtain ⟨⟨p0, p1, p2, p3, p4⟩, r0, r1, r2, r3, r4, r5⟩ := HSKy.out _ hSw; go_simp) <;> (with_reducible rfl)
  try simp only [Act.put, List.setIfInBounds_toArray, List.set_cons_zero, List.set_cons_succ]
  refine wpAnyH_take (i := 6) (oi := ⟨some 31, _, _, _, _, _⟩) (v := ?_) rfl (by kernel_rfl) (by kernel_rfl) (by kernel_rfl) (fun _ _ _ h => h) (Or.inl ⟨by rfl, ?_⟩) (by assumption) ?_
  rotate_left 1
  · (intro w hSw; (try dsimp only at hSw); obtain ⟨⟨p0, p1, p2, p3, p4⟩, r0, r1, r2, r3, r4, r5⟩ := HSKy.out _ hSw; go_simp) <;> (with_reducible rfl)
  try simp only [Act.put, List.setIfInBounds_toArray, List.set_cons_zero, List.set_cons_succ]
  refine wpAnyH_done (by kernel_rfl) ?_ _
  clear hHeld
  obtain ⟨z, hz⟩ : ∃ z, z = y.drew := ⟨_, rfl⟩
  have HFz : Hid (Fr NoBlk y z) := by show Fr _ _ _; rw [hz]; exact (Fr.refl NoBlk _).drew
  rw [← hz]
  clear hz
  have HBz : Hid (Bk z gb 32 (pka P)) := HBy.out.fr HFz.out (fun h => h)
  have HRz : Hid (RkIn M z m R) := HRy.out.nofr HFz.out
  have HCz : Hid (z.ownsRow W.heap.size 30 1 (.slice (some ⟨gc, 0, none⟩) 0 0) 0 []) := own_fr HCy.out HFz.out (fun _ _ h => h)
  have HFWz : Hid (Fr NoBlk W z) := HFWy.out.trans HFz.out
  clear HSKy HB1 HR1 HC1 HBy HRy HCy HFWy HFy HFz HF1 HF01 HF0 HB0
  go_upto_if 31 with fail
  go_cut [7] (fun s7 wx => s7 = (.slice (some ⟨gc, 0, none⟩) 0 0) ∧ ∃ Rm : Rk, Hid (rv Rm = metV (rv R) P.ep ∧ Rm.ers.length < 1000 ∧ Rm.ex < 2 ^ 63) ∧ Hid (RkIn M wx m Rm) ∧ Hid (Fr (fun k => k = m) W wx) ∧ Hid (Bk wx gb 32 (pka P)) ∧ Hid (wx.ownsRow W.heap.size 30 1 (.slice (some ⟨gc, 0, none⟩) 0 0) 0 []))
  case first => as_aux_lemma =>
    by_cases hmet : R.pe < P.ep
    · have g1 : decide ((R.pe : Int) < (P.ep : Int)) = true := by simp; omega
      have g2 : (R.pe : Int) < (P.ep : Int) := by omega
      have g3 : decide (R.pe < P.ep) = true := by simp; omega
      have g4 : R.pe < P.ep := hmet
      have n1 := HRz.out.nums
      have hz1 := HRz.out.put (M' := M) (R' := { R with pe := P.ep }) 1 (.int .u64 (P.ep : Int)) (by unfold rka; simp only [List.setIfInBounds_toArray, List.set_cons_zero, List.set_cons_succ]) (fun _ h => h) HRz.out.mm HRz.out.ml (.inl rfl) (.inl rfl) ⟨n1.1, HNU.out.1, n1.2.2.1, n1.2.2.2⟩
      have hz2 := hz1.1.put (M' := M) (R' := { R with pe := P.ep, ex := 1 }) 3 (.int .u64 1) (by unfold rka; simp only [List.setIfInBounds_toArray, List.set_cons_zero, List.set_cons_succ]; rfl) (fun _ h => h) hz1.1.mm hz1.1.ml (.inl rfl) (.inl rfl) ⟨n1.1, HNU.out.1, n1.2.2.1, by show (1 : Nat) < _; omega⟩
      have hz3 := hz2.1.put (M' := M) (R' := { R with pe := P.ep, ex := 1, ba := 1 }) 2 (.int .u64 1) (by unfold rka; simp only [List.setIfInBounds_toArray, List.set_cons_zero, List.set_cons_succ]; rfl) (fun _ h => h) hz2.1.mm hz2.1.ml (.inl rfl) (.inl rfl) ⟨n1.1, HNU.out.1, by show (1 : Nat) < _; omega, by show (1 : Nat) < _; omega⟩
      have hz4 := hz3.1.put (M' := M) (R' := { R with pe := P.ep, ex := 1, ba := 1, ae := none, ce := 0, ers := [] }) 5 (.slice none 0 0) (by unfold rka; simp only [List.setIfInBounds_toArray, List.set_cons_zero, List.set_cons_succ]; rfl) (fun _ h => h) hz3.1.mm hz3.1.ml (.inl rfl) (.inr ⟨Rdm.nil _ _ _, ⟨Nat.le_refl _, by show (0 : Nat) ≤ maxLen; decide, fun _ => rfl⟩, (fun _ h => by cases h), Nat.zero_le _⟩) ⟨n1.1, HNU.out.1, by show (1 : Nat) < _; omega, by show (1 : Nat) < _; omega⟩
      have c1 := HRz.out.cells.2.1
      have f1 := HRz.out.bk.free 1
      have c3 := hz1.1.cells.2.2.2.1
      have f3 := hz1.1.bk.free 3
      have c2 := hz2.1.cells.2.2.1
      have f2 := hz2.1.bk.free 2
      have c5 := hz3.1.cells.2.2.2.2.2
      have f5 := hz3.1.bk.free 5
      have p0 : z.cell? ⟨gb, 0, none⟩ = some (.int .u64 (P.ep : Int)) := HBz.out.cell 0
      have hfm := ((hz1.2.trans hz2.2).trans hz3.2).trans hz4.2
      have HZ4 := Lib.hid hz4.1
      have HRM : Hid (rv { R with pe := P.ep, ex := 1, ba := 1, ae := none, ce := 0, ers := [] } = metV (rv R) P.ep ∧ ([] : List Er).length < 1000 ∧ (1 : Nat) < 2 ^ 63) := ⟨by rw [← rv_met]; unfold metR; rw [if_pos hmet], by show (0 : Nat) < 1000; omega, by omega⟩
      have HFM := Lib.hid ((HFWz.out.mono fun _ _ h => h.elim).trans hfm)
      have HBM := Lib.hid (HBz.out.fr hfm (fun e => by have := HMB.out; omega))
      have HCM := Lib.hid (own_fr HCz.out hfm (fun k hk e => by have := (own_blk HCz.out hk).1; have := HMB.out; have := HGB.out; omega))
      clear hmet hz1 hz2 hz3 hz4 hfm n1
      dsimp only at c3 c2 c5
      go_wp2_with fail
      go_meet
      exact ⟨rfl, _, HRM, HZ4, HFM, HBM, HCM⟩
    · have g1 : decide ((R.pe : Int) < (P.ep : Int)) = false := by simp; omega
      have g2 : ¬ (R.pe : Int) < (P.ep : Int) := by omega
      have g3 : decide (R.pe < P.ep) = false := by simp; omega
      have g4 : ¬ R.pe < P.ep := hmet
      have HRM : Hid (rv R = metV (rv R) P.ep ∧ R.ers.length < 1000 ∧ R.ex < 2 ^ 63) := ⟨by rw [← rv_met]; unfold metR; rw [if_neg hmet], HNU.out.2.2.2.1, HNU.out.2.2.2.2⟩
      clear hmet
      go_wp2_with fail
      go_meet
      exact ⟨rfl, R, HRM, HRz, HFWz.out.mono fun _ _ h => h.elim, HBz, HCz⟩
  case rest =>
    obtain ⟨rfl, Rm, HRM, HRm, HFm, HBm, HCm⟩ := hcut
    clear HRz HFWz HBz HCz
    have HSKwc : Hid (∀ w', Fr NoBlk wc w' → ((w'.cell? ⟨gb, 0, none⟩ = some (.int .u64 (P.ep : Int)) ∧ w'.cell? ⟨gb, 1, none⟩ = some (.int .u64 (P.pe : Int)) ∧ w'.cell? ⟨gb, 2, none⟩ = some (.int .u64 (P.sq : Int)) ∧ w'.cell? ⟨gb, 3, none⟩ = some (.int .u64 (P.ak : Int)) ∧ w'.cell? ⟨gb, 4, none⟩ = some (.slice P.d.1 P.d.2.2.length P.d.2.1)) ∧ (w'.cell? ⟨m, 0, none⟩ = some (.int .u64 (Rm.ep : Int)) ∧ w'.cell? ⟨m, 1, none⟩ = some (.int .u64 (Rm.pe : Int)) ∧ w'.cell? ⟨m, 2, none⟩ = some (.int .u64 (Rm.ba : Int)) ∧ w'.cell? ⟨m, 3, none⟩ = some (.int .u64 (Rm.ex : Int)) ∧ w'.cell? ⟨m, 4, none⟩ = some (.slice Rm.ao Rm.outs.length Rm.co) ∧ w'.cell? ⟨m, 5, none⟩ = some (.slice Rm.ae Rm.ers.length Rm.ce)))) := fun w' hf => by
      have hb := HBm.out.fr hf (fun h => h)
      exact ⟨⟨hb.cell 0, hb.cell 1, hb.cell 2, hb.cell 3, hb.cell 4⟩, (HRm.out.nofr hf).cells⟩
    go_upto_region 9 with fail
    refine wp_region_held_drew (S := fun w' => Fr NoBlk wc w') (by kernel_rfl) (by exact (Fr.refl NoBlk wc).drew) (fun hHeld => ?_)
    refine wpAnyH_take (i := 0) (oi := ⟨some 46, _, _, _, _, _⟩) (v := ?_) rfl (by kernel_rfl) (by kernel_rfl) (by kernel_rfl) (fun _ _ _ h => h) (Or.inl ⟨by rfl, ?_⟩) (by assumption) ?_
    rotate_left 1
    · (intro w hSw; (try dsimp only at hSw); obtain ⟨⟨p0, p1, p2, p3, p4⟩, r0, r1, r2, r3, r4, r5⟩ := HSKwc.out _ hSw; go_simp) <;> (with_reducible rfl)
    try simp only [Act.put, List.setIfInBounds_toArray, List.set_cons_zero, List.set_cons_succ]
    refine wpAnyH_take (i := 1) (oi := ⟨some 47, _, _, _, _, _⟩) (v := ?_) rfl (by kernel_rfl) (by kernel_rfl) (by kernel_rfl) (fun _ _ _ h => h) (Or.inl ⟨by rfl, ?_⟩) (by assumption) ?_
    rotate_left 1
    · (intro w hSw; (try dsimp only at hSw); obtain ⟨⟨p0, p1, p2, p3, p4⟩, r0, r1, r2, r3, r4, r5⟩ := HSKwc.out _ hSw; go_simp) <;> (with_reducible rfl)
    try simp only [Act.put, List.setIfInBounds_toArray, List.set_cons_zero, List.set_cons_succ]
    refine wpAnyH_take (i := 2) (oi := ⟨some 48, _, _, _, _, _⟩) (v := ?_) rfl (by kernel_rfl) (by kernel_rfl) (by kernel_rfl) (fun _ _ _ h => h) (Or.inl ⟨by rfl, ?_⟩) (by assumption) ?_
    rotate_left 1
    · (intro w hSw; (try dsimp only at hSw); obtain ⟨⟨p0, p1, p2, p3, p4⟩, r0, r1, r2, r3, r4, r5⟩ := HSKwc.out _ hSw; go_simp) <;> (with_reducible rfl)
    try simp only [Act.put, List.setIfInBounds_toArray, List.set_cons_zero, List.set_cons_succ]
    refine wpAnyH_take (i := 3) (oi := ⟨some 49, _, _, _, _, _⟩) (v := ?_) rfl (by kernel_rfl) (by kernel_rfl) (by kernel_rfl) (fun _ _ _ h => h) (Or.inl ⟨by rfl, ?_⟩) (by assumption) ?_
    rotate_left 1
    · (intro w hSw; (try dsimp only at hSw); obtain ⟨⟨p0, p1, p2, p3, p4⟩, r0, r1, r2, r3, r4, r5⟩ := HSKwc.out _ hSw; go_simp) <;> (with_reducible rfl)
    try simp only [Act.put, List.setIfInBounds_toArray, List.set_cons_zero, List.set_cons_succ]
    refine wpAnyH_take (i := 4) (oi := ⟨some 50, _, _, _, _, _⟩) (v := ?_) rfl (by kernel_rfl) (by kernel_rfl) (by kernel_rfl) (fun _ _ _ h => h) (Or.inl ⟨by rfl, ?_⟩) (by assumption) ?_
    rotate_left 1
    · (intro w hSw; (try dsimp only at hSw); obtain ⟨⟨p0, p1, p2, p3, p4⟩, r0, r1, r2, r3, r4, r5⟩ := HSKwc.out _ hSw; go_simp) <;> (with_reducible rfl)
    try simp only [Act.put, List.setIfInBounds_toArray, List.set_cons_zero, List.set_cons_succ]
    refine wpAnyH_take (i := 5) (oi := ⟨some 51, _, _, _, _, _⟩) (v := ?_) rfl (by kernel_rfl) (by kernel_rfl) (by kernel_rfl) (fun _ _ _ h => h) (Or.inl ⟨by rfl, ?_⟩) (by assumption) ?_
    rotate_left 1
    · (intro w hSw; (try dsimp only at hSw); obtain ⟨⟨p0, p1, p2, p3, p4⟩, r0, r1, r2, r3, r4, r5⟩ := HSKwc.out _ hSw; go_simp) <;> (with_reducible rfl)
    try simp only [Act.put, List.setIfInBounds_toArray, List.set_cons_zero, List.set_cons_succ]
    refine wpAnyH_take (i := 6) (oi := ⟨some 52, _, _, _, _, _⟩) (v := ?_) rfl (by kernel_rfl) (by kernel_rfl) (by kernel_rfl) (fun _ _ _ h => h) (Or.inl ⟨by rfl, ?_⟩) (by assumption) ?_
    rotate_left 1
    · (intro w hSw; (try dsimp only at hSw); obtain ⟨⟨p0, p1, p2, p3, p4⟩, r0, r1, r2, r3, r4, r5⟩ := HSKwc.out _ hSw; go_simp) <;> (with_reducible rfl)
    try simp only [Act.put, List.setIfInBounds_toArray, List.set_cons_zero, List.set_cons_succ]
    refine wpAnyH_done (by kernel_rfl) ?_ _
    clear hHeld
    obtain ⟨wd, hwd⟩ : ∃ wd, wd = wc.drew := ⟨_, rfl⟩
    have HFwd : Hid (Fr NoBlk wc wd) := by show Fr _ _ _; rw [hwd]; exact (Fr.refl NoBlk _).drew
    rw [← hwd]
    clear hwd
    have HBd : Hid (Bk wd gb 32 (pka P)) := HBm.out.fr HFwd.out (fun h => h)
    have HRd : Hid (RkIn M wd m Rm) := HRm.out.nofr HFwd.out
    have HFd : Hid (Fr (fun k => k = m) W wd) := HFm.out.trans (HFwd.out.mono fun _ _ h => h.elim)
    have HCd : Hid (wd.ownsRow W.heap.size 30 1 (.slice (some ⟨gc, 0, none⟩) 0 0) 0 []) := own_fr HCm.out HFwd.out (fun _ _ h => h)
    have HEP : Hid (Rm.ep = (rv R).ep) := by
      have h1 := congrArg Rv.ep HRM.out.1
      rw [metV_ep] at h1
      exact h1
    have HSKwd : Hid (∀ w', Fr NoBlk wd w' → ((w'.cell? ⟨gb, 0, none⟩ = some (.int .u64 (P.ep : Int)) ∧ w'.cell? ⟨gb, 1, none⟩ = some (.int .u64 (P.pe : Int)) ∧ w'.cell? ⟨gb, 2, none⟩ = some (.int .u64 (P.sq : Int)) ∧ w'.cell? ⟨gb, 3, none⟩ = some (.int .u64 (P.ak : Int)) ∧ w'.cell? ⟨gb, 4, none⟩ = some (.slice P.d.1 P.d.2.2.length P.d.2.1)) ∧ (w'.cell? ⟨m, 0, none⟩ = some (.int .u64 (Rm.ep : Int)) ∧ w'.cell? ⟨m, 1, none⟩ = some (.int .u64 (Rm.pe : Int)) ∧ w'.cell? ⟨m, 2, none⟩ = some (.int .u64 (Rm.ba : Int)) ∧ w'.cell? ⟨m, 3, none⟩ = some (.int .u64 (Rm.ex : Int)) ∧ w'.cell? ⟨m, 4, none⟩ = some (.slice Rm.ao Rm.outs.length Rm.co) ∧ w'.cell? ⟨m, 5, none⟩ = some (.slice Rm.ae Rm.ers.length Rm.ce)))) := fun w' hf => by
      have hb := HBd.out.fr hf (fun h => h)
      exact ⟨⟨hb.cell 0, hb.cell 1, hb.cell 2, hb.cell 3, hb.cell 4⟩, (HRd.out.nofr hf).cells⟩
    clear HSKwc HBm HRm HFm HCm HFwd
    by_cases hpe : P.pe = Rm.ep
    rotate_left
    · have g1 : ((P.pe : Int) != (Rm.ep : Int)) = true := by simp; omega
      have g2 : ¬ P.pe = Rm.ep := hpe
      have g3 : ¬ (P.pe : Int) = (Rm.ep : Int) := by omega
      have HNE : Hid (P.pe ≠ (rv R).ep) := by rw [← HEP.out]; exact hpe
      clear hpe
      go_upto_region 10 with fail
      refine wp_region_held_drew (S := fun w' => Fr NoBlk wd w') (by kernel_rfl) (by exact (Fr.refl NoBlk wd).drew) (fun hHeld => ?_)
      obtain ⟨w6, hw6⟩ : ∃ w6, w6 = wd.drew := ⟨_, rfl⟩
      have HF6 : Hid (Fr NoBlk wd w6) := by show Fr _ _ _; rw [hw6]; exact (Fr.refl NoBlk _).drew
      rw [← hw6] at hHeld ⊢
      clear hw6
      have e4 := akN_wrap (HRd.out.nums.2.2.2)
      have e5 : ((Rm.ex : Int) - 1) % 18446744073709551616 = ((akN Rm.ex : Nat) : Int) := by
        have := HRd.out.nums.2.2.2
        unfold akN
        split <;> omega
      refine wpAnyH_take (i := 0) (oi := ⟨some 53, _, _, _, _, _⟩) (v := ?_) rfl (by kernel_rfl) (by kernel_rfl) (by kernel_rfl) (fun _ _ _ h => h) (Or.inl ⟨by rfl, ?_⟩) (by assumption) ?_
      rotate_left 1
      · (intro w hSw; (try dsimp only at hSw); obtain ⟨⟨p0, p1, p2, p3, p4⟩, r0, r1, r2, r3, r4, r5⟩ := HSKwd.out _ hSw; go_simp) <;> (with_reducible rfl)
      try simp only [Act.put, List.setIfInBounds_toArray, List.set_cons_zero, List.set_cons_succ]
      refine wpAnyH_take (i := 1) (oi := ⟨some 54, _, _, _, _, _⟩) (v := ?_) rfl (by kernel_rfl) (by kernel_rfl) (by kernel_rfl) (fun _ _ _ h => h) (Or.inl ⟨by rfl, ?_⟩) (by assumption) ?_
      rotate_left 1
      · (intro w hSw; (try dsimp only at hSw); obtain ⟨⟨p0, p1, p2, p3, p4⟩, r0, r1, r2, r3, r4, r5⟩ := HSKwd.out _ hSw; go_simp) <;> (with_reducible rfl)
      try simp only [Act.put, List.setIfInBounds_toArray, List.set_cons_zero, List.set_cons_succ]
      refine wpAnyH_take (i := 2) (oi := ⟨some 55, _, _, _, _, _⟩) (v := ?_) rfl (by kernel_rfl) (by kernel_rfl) (by kernel_rfl) (fun _ _ _ h => h) (Or.inl ⟨by rfl, ?_⟩) (by assumption) ?_
      rotate_left 1
      · (intro w hSw; (try dsimp only at hSw); obtain ⟨⟨p0, p1, p2, p3, p4⟩, r0, r1, r2, r3, r4, r5⟩ := HSKwd.out _ hSw; go_simp) <;> (with_reducible rfl)
      try simp only [Act.put, List.setIfInBounds_toArray, List.set_cons_zero, List.set_cons_succ]
      refine wpAnyH_take (i := 3) (oi := ⟨some 56, _, _, _, _, _⟩) (v := ?_) rfl (by kernel_rfl) (by kernel_rfl) (by kernel_rfl) (fun _ _ _ h => h) (Or.inl ⟨by rfl, ?_⟩) (by assumption) ?_
      rotate_left 1
      · (intro w hSw; (try dsimp only at hSw); obtain ⟨⟨p0, p1, p2, p3, p4⟩, r0, r1, r2, r3, r4, r5⟩ := HSKwd.out _ hSw; go_simp) <;> (with_reducible rfl)
      try simp only [Act.put, List.setIfInBounds_toArray, List.set_cons_zero, List.set_cons_succ]
      refine wpAnyH_take (i := 4) (oi := ⟨some 57, _, _, _, _, _⟩) (v := ?_) rfl (by kernel_rfl) (by kernel_rfl) (by kernel_rfl) (fun _ _ _ h => h) (Or.inl ⟨by rfl, ?_⟩) (by assumption) ?_
      rotate_left 1
      · (intro w hSw; (try dsimp only at hSw); obtain ⟨⟨p0, p1, p2, p3, p4⟩, r0, r1, r2, r3, r4, r5⟩ := HSKwd.out _ hSw; go_simp) <;> (with_reducible rfl)
      try simp only [Act.put, List.setIfInBounds_toArray, List.set_cons_zero, List.set_cons_succ]
      refine wpAnyH_take (i := 5) (oi := ⟨some 58, _, _, _, _, _⟩) (v := ?_) rfl (by kernel_rfl) (by kernel_rfl) (by kernel_rfl) (fun _ _ _ h => h) (Or.inl ⟨by rfl, ?_⟩) (by assumption) ?_
      rotate_left 1
      · (intro w hSw; (try dsimp only at hSw); obtain ⟨⟨p0, p1, p2, p3, p4⟩, r0, r1, r2, r3, r4, r5⟩ := HSKwd.out _ hSw; go_simp) <;> (with_reducible rfl)
      try simp only [Act.put, List.setIfInBounds_toArray, List.set_cons_zero, List.set_cons_succ]
      refine wpAnyH_take (i := 6) (oi := ⟨some 59, _, _, _, _, _⟩) (v := ?_) rfl (by kernel_rfl) (by kernel_rfl) (by kernel_rfl) (fun _ _ _ h => h) (Or.inl ⟨by rfl, ?_⟩) (by assumption) ?_
      rotate_left 1
      · (intro w hSw; (try dsimp only at hSw); obtain ⟨⟨p0, p1, p2, p3, p4⟩, r0, r1, r2, r3, r4, r5⟩ := HSKwd.out _ hSw; go_simp) <;> (with_reducible rfl)
      try simp only [Act.put, List.setIfInBounds_toArray, List.set_cons_zero, List.set_cons_succ]
      refine wpAnyH_take (i := 7) (oi := ⟨some 60, _, _, _, _, _⟩) (v := ?_) rfl (by kernel_rfl) (by kernel_rfl) (by kernel_rfl) (fun _ _ _ h => h) (Or.inl ⟨by rfl, ?_⟩) (by assumption) ?_
      rotate_left 1
      · (intro w hSw; (try dsimp only at hSw); obtain ⟨⟨p0, p1, p2, p3, p4⟩, r0, r1, r2, r3, r4, r5⟩ := HSKwd.out _ hSw; go_simp) <;> (with_reducible rfl)
      try simp only [Act.put, List.setIfInBounds_toArray, List.set_cons_zero, List.set_cons_succ]
      refine wpAnyH_take (i := 8) (oi := ⟨some 61, _, _, _, _, _⟩) (v := ?_) rfl (by kernel_rfl) (by kernel_rfl) (by kernel_rfl) (fun _ _ _ h => h) (Or.inl ⟨by rfl, ?_⟩) (by assumption) ?_
      rotate_left 1
      · (intro w hSw; (try dsimp only at hSw); obtain ⟨⟨p0, p1, p2, p3, p4⟩, r0, r1, r2, r3, r4, r5⟩ := HSKwd.out _ hSw; go_simp) <;> (with_reducible rfl)
      try simp only [Act.put, List.setIfInBounds_toArray, List.set_cons_zero, List.set_cons_succ]
      refine wpAnyH_take (i := 9) (oi := ⟨some 62, _, _, _, _, _⟩) (v := ?_) rfl (by kernel_rfl) (by kernel_rfl) (by kernel_rfl) (fun _ _ _ h => h) (Or.inl ⟨by rfl, ?_⟩) (by assumption) ?_
      rotate_left 1
      · (intro w hSw; (try dsimp only at hSw); obtain ⟨⟨p0, p1, p2, p3, p4⟩, r0, r1, r2, r3, r4, r5⟩ := HSKwd.out _ hSw; go_simp) <;> (with_reducible rfl)
      try simp only [Act.put, List.setIfInBounds_toArray, List.set_cons_zero, List.set_cons_succ]
      refine wpAnyH_take (i := 10) (oi := ⟨some 63, _, _, _, _, _⟩) (v := ?_) rfl (by kernel_rfl) (by kernel_rfl) (by kernel_rfl) (fun _ _ _ h => h) (Or.inl ⟨by rfl, ?_⟩) (by assumption) ?_
      rotate_left 1
      · (intro w hSw; (try dsimp only at hSw); obtain ⟨⟨p0, p1, p2, p3, p4⟩, r0, r1, r2, r3, r4, r5⟩ := HSKwd.out _ hSw; go_simp) <;> (with_reducible rfl)
      try simp only [Act.put, List.setIfInBounds_toArray, List.set_cons_zero, List.set_cons_succ]
      refine wpAnyH_take (i := 11) (oi := ⟨some 64, _, _, _, _, _⟩) (v := ?_) rfl (by kernel_rfl) (by kernel_rfl) (by kernel_rfl) (fun _ _ _ h => h) (Or.inl ⟨by rfl, ?_⟩) (by assumption) ?_
      rotate_left 1
      · (intro w hSw; (try dsimp only at hSw); obtain ⟨⟨p0, p1, p2, p3, p4⟩, r0, r1, r2, r3, r4, r5⟩ := HSKwd.out _ hSw; go_simp) <;> (with_reducible rfl)
      try simp only [Act.put, List.setIfInBounds_toArray, List.set_cons_zero, List.set_cons_succ]
      refine wpAnyH_take (i := 12) (oi := ⟨some 65, _, _, _, _, _⟩) (v := ?_) rfl (by kernel_rfl) (by kernel_rfl) (by kernel_rfl) (fun _ _ _ h => h) (Or.inl ⟨by rfl, ?_⟩) (by assumption) ?_
      rotate_left 1
      · (intro w hSw; (try dsimp only at hSw); obtain ⟨⟨p0, p1, p2, p3, p4⟩, r0, r1, r2, r3, r4, r5⟩ := HSKwd.out _ hSw; go_simp) <;> (with_reducible rfl)
      try simp only [Act.put, List.setIfInBounds_toArray, List.set_cons_zero, List.set_cons_succ]
      refine wpAnyH_take (i := 13) (oi := ⟨some 66, _, _, _, _, _⟩) (v := ?_) rfl (by kernel_rfl) (by kernel_rfl) (by kernel_rfl) (fun _ _ _ h => h) (Or.inl ⟨by rfl, ?_⟩) (by assumption) ?_
      rotate_left 1
      · (intro w hSw; (try dsimp only at hSw); obtain ⟨⟨p0, p1, p2, p3, p4⟩, r0, r1, r2, r3, r4, r5⟩ := HSKwd.out _ hSw; go_simp) <;> (with_reducible rfl)
      try simp only [Act.put, List.setIfInBounds_toArray, List.set_cons_zero, List.set_cons_succ]
      refine wpAnyH_take (i := 14) (oi := ⟨some 67, _, _, _, _, _⟩) (v := ?_) rfl (by kernel_rfl) (by kernel_rfl) (by kernel_rfl) (fun _ _ _ h => h) (Or.inl ⟨by rfl, ?_⟩) (by assumption) ?_
      rotate_left 1
      · (intro w hSw; (try dsimp only at hSw); obtain ⟨⟨p0, p1, p2, p3, p4⟩, r0, r1, r2, r3, r4, r5⟩ := HSKwd.out _ hSw; go_simp) <;> (with_reducible rfl)
      try simp only [Act.put, List.setIfInBounds_toArray, List.set_cons_zero, List.set_cons_succ]
      refine wpAnyH_take (i := 16) (oi := ⟨some 4, _, _, _, _, _⟩) (v := ?_) rfl (by kernel_rfl) (by kernel_rfl) (by kernel_rfl) (fun _ _ _ h => h) (Or.inl ⟨by rfl, ?_⟩) (by assumption) ?_
      rotate_left 1
      · (intro w hSw; (try dsimp only at hSw); go_simp) <;> (with_reducible rfl)
      try simp only [Act.put, List.setIfInBounds_toArray, List.set_cons_zero, List.set_cons_succ]
      refine wpAnyH_ready (rs := [15]) (by kernel_rfl) (by simp) ?_
      refine AllReadyH.cons (o := ⟨some 68, _, _, _, _, _⟩) rfl (fun K hK => ?_) AllReadyH.nil
      go_simp
      refine hK.out _ _ ?_ (fun hHeld => ?_)
      · exact Fr.alloc (by assumption) _
      clear hK K
      try simp only [Act.put, List.setIfInBounds_toArray, List.set_cons_zero, List.set_cons_succ]
      refine wpAnyH_take (i := 17) (oi := ⟨some 5, _, _, _, _, _⟩) (v := ?_) rfl (by kernel_rfl) (by kernel_rfl) (by kernel_rfl) (fun _ _ _ h => h) (Or.inl ⟨by rfl, ?_⟩) (by assumption) ?_
      rotate_left 1
      · (intro w hSw; (try dsimp only at hSw); go_simp) <;> (with_reducible rfl)
      try simp only [Act.put, List.setIfInBounds_toArray, List.set_cons_zero, List.set_cons_succ]
      refine wpAnyH_done (by kernel_rfl) ?_ _
      have HF7 : Hid (Fr NoBlk wd _) := hHeld
      clear hHeld e4 e5
      go_wp2_with fail
      refine bodyPost_ret (results_tmp2 rfl _ _ _) rfl ?_
      exact HPOST.out (some ⟨gc, 0, none⟩) 0 [] (some ⟨w6.heap.size, 0, none⟩) 1 [⟨Rm.ep, Rm.pe, 0, akN Rm.ex, none, 0, []⟩] M Rm _ (HRd.out.nofr HF7.out) (HFd.out.trans (HF7.out.mono fun _ _ h => h.elim)) (fun _ h => .inl h) ⟨Rd.nil_ _ _, (fun _ h => by cases h), by simp⟩ (one_rd w6 ⟨Rm.ep, Rm.pe, 0, akN Rm.ex, none, 0, []⟩ (Rd.nil_ _ _)) (by
        rw [HRV.out, if_neg HH.out, if_pos HNE.out, ← HRM.out.1]
        exact ⟨rfl, rfl, rfl⟩)
    have g1 : ((P.pe : Int) != (Rm.ep : Int)) = false := by simp; omega
    have g3 : (P.pe != Rm.ep) = false := by simp; omega
    have HEQ : Hid (¬ P.pe ≠ (rv R).ep) := by rw [← HEP.out]; exact fun h => h hpe
    clear hpe
    have HOL : Hid (Rm.outs.length ≤ 16 ∧ Rm.outs.length ≤ Rm.co) := ⟨HRd.out.few.1, HRd.out.outc.1⟩
    go_upto_block 0 with fail
    clear g1 g3
    go_cut [7] (fun s7 wx => s7 = (.slice (some ⟨gc, 0, none⟩) 0 0) ∧ ∃ Rk1 : Rk, Hid (AckV (metV (rv R) P.ep) P.ak (rv Rk1)) ∧ Hid (Rk1.ers.length < 1000 ∧ Rk1.ex < 2 ^ 63) ∧ Hid (RkIn M wx m Rk1) ∧ Hid (Fr (fun k => k = m) W wx) ∧ Hid (Bk wx gb 32 (pka P)) ∧ Hid (wx.ownsRow W.heap.size 30 1 (.slice (some ⟨gc, 0, none⟩) 0 0) 0 []))
    rotate_left
    case rest =>
      obtain ⟨rfl, Rk1, HACK, HE1, HRs, HFs, HBs, HCs⟩ := hcut
      clear HRd HFd HBd HCd HSKwd
      have p2 : wc.cell? ⟨gb, 2, none⟩ = some (.int .u64 (P.sq : Int)) := HBs.out.cell 2
      by_cases hs0 : P.sq = 0
      · have q1 : ((P.sq : Int) == 0) = true := by simp [hs0]
        have HS0 := Lib.hid hs0
        clear hs0
        go_wp2_with fail
        refine bodyPost_ret (results_tmp2 rfl _ _ _) rfl ?_
        exact HPOST.out (some ⟨gc, 0, none⟩) 0 [] (some ⟨gp, 0, none⟩) 0 [] M Rk1 _ HRs.out HFs.out (fun _ h => .inl h) ⟨Rd.nil_ _ _, (fun _ h => by cases h), by simp⟩ ⟨Rd.nil_ _ _, (fun _ h => by cases h), by simp⟩ (by rw [HRV.out, if_neg HH.out, if_neg HEQ.out, if_pos HS0.out]; exact ⟨rfl, rfl, HACK.out⟩)
      have q1 : ((P.sq : Int) == 0) = false := beq_eq_false_iff_ne.2 (by omega)
      have HS0 : Hid (¬ P.sq = 0) := hs0
      clear hs0
      have HSKwc : Hid (∀ w', Fr NoBlk wc w' → ((w'.cell? ⟨gb, 0, none⟩ = some (.int .u64 (P.ep : Int)) ∧ w'.cell? ⟨gb, 1, none⟩ = some (.int .u64 (P.pe : Int)) ∧ w'.cell? ⟨gb, 2, none⟩ = some (.int .u64 (P.sq : Int)) ∧ w'.cell? ⟨gb, 3, none⟩ = some (.int .u64 (P.ak : Int)) ∧ w'.cell? ⟨gb, 4, none⟩ = some (.slice P.d.1 P.d.2.2.length P.d.2.1)) ∧ (w'.cell? ⟨m, 0, none⟩ = some (.int .u64 (Rk1.ep : Int)) ∧ w'.cell? ⟨m, 1, none⟩ = some (.int .u64 (Rk1.pe : Int)) ∧ w'.cell? ⟨m, 2, none⟩ = some (.int .u64 (Rk1.ba : Int)) ∧ w'.cell? ⟨m, 3, none⟩ = some (.int .u64 (Rk1.ex : Int)) ∧ w'.cell? ⟨m, 4, none⟩ = some (.slice Rk1.ao Rk1.outs.length Rk1.co) ∧ w'.cell? ⟨m, 5, none⟩ = some (.slice Rk1.ae Rk1.ers.length Rk1.ce)))) := fun w' hf => by
        have hb := HBs.out.fr hf (fun h => h)
        exact ⟨⟨hb.cell 0, hb.cell 1, hb.cell 2, hb.cell 3, hb.cell 4⟩, (HRs.out.nofr hf).cells⟩
      go_upto_region 16 with fail
      clear p2 q1
      go_cut [127] (fun s127 wx => ∃ bt : Bool, s127 = .bool bt ∧ Hid (bt = true ↔ fitsV (rv Rk1) P.sq) ∧ Hid (RkIn M wx m Rk1) ∧ Hid (Fr (fun k => k = m) W wx) ∧ Hid (Bk wx gb 32 (pka P)) ∧ Hid (wx.ownsRow W.heap.size 30 1 (.slice (some ⟨gc, 0, none⟩) 0 0) 0 []))
      case first => as_aux_lemma =>
        by_cases hge : Rk1.ex ≤ P.sq
        rotate_left
        · have g1 : decide ((Rk1.ex : Int) ≤ (P.sq : Int)) = false := by simp; omega
          have g2 : decide (Rk1.ex ≤ P.sq) = false := by simp; omega
          have g3 : ¬ Rk1.ex ≤ P.sq := hge
          have HBT : Hid (false = true ↔ fitsV (rv Rk1) P.sq) := ⟨fun h => (by cases h), fun h => absurd h.1 hge⟩
          clear hge
          refine wp_region_held_drew (S := fun w' => Fr NoBlk wc w') (by kernel_rfl) (by exact (Fr.refl NoBlk wc).drew) (fun hHeld => ?_)
          refine wpAnyH_take (i := 0) (oi := ⟨some 104, _, _, _, _, _⟩) (v := ?_) rfl (by kernel_rfl) (by kernel_rfl) (by kernel_rfl) (fun _ _ _ h => h) (Or.inl ⟨by rfl, ?_⟩) (by assumption) ?_
          rotate_left 1
          · (intro w hSw; (try dsimp only at hSw); obtain ⟨⟨p0, p1, p2, p3, p4⟩, r0, r1, r2, r3, r4, r5⟩ := HSKwc.out _ hSw; go_simp) <;> (with_reducible rfl)
          try simp only [Act.put, List.setIfInBounds_toArray, List.set_cons_zero, List.set_cons_succ]
          refine wpAnyH_take (i := 1) (oi := ⟨some 105, _, _, _, _, _⟩) (v := ?_) rfl (by kernel_rfl) (by kernel_rfl) (by kernel_rfl) (fun _ _ _ h => h) (Or.inl ⟨by rfl, ?_⟩) (by assumption) ?_
          rotate_left 1
          · (intro w hSw; (try dsimp only at hSw); obtain ⟨⟨p0, p1, p2, p3, p4⟩, r0, r1, r2, r3, r4, r5⟩ := HSKwc.out _ hSw; go_simp) <;> (with_reducible rfl)
          try simp only [Act.put, List.setIfInBounds_toArray, List.set_cons_zero, List.set_cons_succ]
          refine wpAnyH_take (i := 2) (oi := ⟨some 106, _, _, _, _, _⟩) (v := ?_) rfl (by kernel_rfl) (by kernel_rfl) (by kernel_rfl) (fun _ _ _ h => h) (Or.inl ⟨by rfl, ?_⟩) (by assumption) ?_
          rotate_left 1
          · (intro w hSw; (try dsimp only at hSw); obtain ⟨⟨p0, p1, p2, p3, p4⟩, r0, r1, r2, r3, r4, r5⟩ := HSKwc.out _ hSw; go_simp) <;> (with_reducible rfl)
          try simp only [Act.put, List.setIfInBounds_toArray, List.set_cons_zero, List.set_cons_succ]
          refine wpAnyH_take (i := 3) (oi := ⟨some 107, _, _, _, _, _⟩) (v := ?_) rfl (by kernel_rfl) (by kernel_rfl) (by kernel_rfl) (fun _ _ _ h => h) (Or.inl ⟨by rfl, ?_⟩) (by assumption) ?_
          rotate_left 1
          · (intro w hSw; (try dsimp only at hSw); obtain ⟨⟨p0, p1, p2, p3, p4⟩, r0, r1, r2, r3, r4, r5⟩ := HSKwc.out _ hSw; go_simp) <;> (with_reducible rfl)
          try simp only [Act.put, List.setIfInBounds_toArray, List.set_cons_zero, List.set_cons_succ]
          refine wpAnyH_take (i := 4) (oi := ⟨some 108, _, _, _, _, _⟩) (v := ?_) rfl (by kernel_rfl) (by kernel_rfl) (by kernel_rfl) (fun _ _ _ h => h) (Or.inl ⟨by rfl, ?_⟩) (by assumption) ?_
          rotate_left 1
          · (intro w hSw; (try dsimp only at hSw); obtain ⟨⟨p0, p1, p2, p3, p4⟩, r0, r1, r2, r3, r4, r5⟩ := HSKwc.out _ hSw; go_simp) <;> (with_reducible rfl)
          try simp only [Act.put, List.setIfInBounds_toArray, List.set_cons_zero, List.set_cons_succ]
          refine wpAnyH_take (i := 5) (oi := ⟨some 109, _, _, _, _, _⟩) (v := ?_) rfl (by kernel_rfl) (by kernel_rfl) (by kernel_rfl) (fun _ _ _ h => h) (Or.inl ⟨by rfl, ?_⟩) (by assumption) ?_
          rotate_left 1
          · (intro w hSw; (try dsimp only at hSw); obtain ⟨⟨p0, p1, p2, p3, p4⟩, r0, r1, r2, r3, r4, r5⟩ := HSKwc.out _ hSw; go_simp) <;> (with_reducible rfl)
          try simp only [Act.put, List.setIfInBounds_toArray, List.set_cons_zero, List.set_cons_succ]
          refine wpAnyH_take (i := 6) (oi := ⟨some 110, _, _, _, _, _⟩) (v := ?_) rfl (by kernel_rfl) (by kernel_rfl) (by kernel_rfl) (fun _ _ _ h => h) (Or.inl ⟨by rfl, ?_⟩) (by assumption) ?_
          rotate_left 1
          · (intro w hSw; (try dsimp only at hSw); obtain ⟨⟨p0, p1, p2, p3, p4⟩, r0, r1, r2, r3, r4, r5⟩ := HSKwc.out _ hSw; go_simp) <;> (with_reducible rfl)
          try simp only [Act.put, List.setIfInBounds_toArray, List.set_cons_zero, List.set_cons_succ]
          refine wpAnyH_take (i := 7) (oi := ⟨some 111, _, _, _, _, _⟩) (v := ?_) rfl (by kernel_rfl) (by kernel_rfl) (by kernel_rfl) (fun _ _ _ h => h) (Or.inl ⟨by rfl, ?_⟩) (by assumption) ?_
          rotate_left 1
          · (intro w hSw; (try dsimp only at hSw); obtain ⟨⟨p0, p1, p2, p3, p4⟩, r0, r1, r2, r3, r4, r5⟩ := HSKwc.out _ hSw; go_simp) <;> (with_reducible rfl)
          try simp only [Act.put, List.setIfInBounds_toArray, List.set_cons_zero, List.set_cons_succ]
          refine wpAnyH_take (i := 8) (oi := ⟨some 112, _, _, _, _, _⟩) (v := undef) rfl (by kernel_rfl) (by kernel_rfl) (by kernel_rfl) (fun _ _ _ h => h) (Or.inr ⟨by rfl, rfl⟩) (by assumption) ?_
          try simp only [Act.put, List.setIfInBounds_toArray, List.set_cons_zero, List.set_cons_succ]
          refine wpAnyH_take (i := 9) (oi := ⟨some 113, _, _, _, _, _⟩) (v := undef) rfl (by kernel_rfl) (by kernel_rfl) (by kernel_rfl) (fun _ _ _ h => h) (Or.inr ⟨by rfl, rfl⟩) (by assumption) ?_
          try simp only [Act.put, List.setIfInBounds_toArray, List.set_cons_zero, List.set_cons_succ]
          refine wpAnyH_take (i := 10) (oi := ⟨some 114, _, _, _, _, _⟩) (v := undef) rfl (by kernel_rfl) (by kernel_rfl) (by kernel_rfl) (fun _ _ _ h => h) (Or.inr ⟨by rfl, rfl⟩) (by assumption) ?_
          try simp only [Act.put, List.setIfInBounds_toArray, List.set_cons_zero, List.set_cons_succ]
          refine wpAnyH_take (i := 11) (oi := ⟨some 115, _, _, _, _, _⟩) (v := undef) rfl (by kernel_rfl) (by kernel_rfl) (by kernel_rfl) (fun _ _ _ h => h) (Or.inr ⟨by rfl, rfl⟩) (by assumption) ?_
          try simp only [Act.put, List.setIfInBounds_toArray, List.set_cons_zero, List.set_cons_succ]
          refine wpAnyH_take (i := 12) (oi := ⟨some 116, _, _, _, _, _⟩) (v := undef) rfl (by kernel_rfl) (by kernel_rfl) (by kernel_rfl) (fun _ _ _ h => h) (Or.inr ⟨by rfl, rfl⟩) (by assumption) ?_
          try simp only [Act.put, List.setIfInBounds_toArray, List.set_cons_zero, List.set_cons_succ]
          refine wpAnyH_take (i := 13) (oi := ⟨some 117, _, _, _, _, _⟩) (v := undef) rfl (by kernel_rfl) (by kernel_rfl) (by kernel_rfl) (fun _ _ _ h => h) (Or.inr ⟨by rfl, rfl⟩) (by assumption) ?_
          try simp only [Act.put, List.setIfInBounds_toArray, List.set_cons_zero, List.set_cons_succ]
          refine wpAnyH_take (i := 14) (oi := ⟨some 118, _, _, _, _, _⟩) (v := undef) rfl (by kernel_rfl) (by kernel_rfl) (by kernel_rfl) (fun _ _ _ h => h) (Or.inr ⟨by rfl, rfl⟩) (by assumption) ?_
          try simp only [Act.put, List.setIfInBounds_toArray, List.set_cons_zero, List.set_cons_succ]
          refine wpAnyH_take (i := 15) (oi := ⟨some 119, _, _, _, _, _⟩) (v := undef) rfl (by kernel_rfl) (by kernel_rfl) (by kernel_rfl) (fun _ _ _ h => h) (Or.inr ⟨by rfl, rfl⟩) (by assumption) ?_
          try simp only [Act.put, List.setIfInBounds_toArray, List.set_cons_zero, List.set_cons_succ]
          refine wpAnyH_take (i := 16) (oi := ⟨some 120, _, _, _, _, _⟩) (v := ?_) rfl (by kernel_rfl) (by kernel_rfl) (by kernel_rfl) (fun _ _ _ h => h) (Or.inl ⟨by rfl, ?_⟩) (by assumption) ?_
          rotate_left 1
          · (intro w hSw; (try dsimp only at hSw); obtain ⟨⟨p0, p1, p2, p3, p4⟩, r0, r1, r2, r3, r4, r5⟩ := HSKwc.out _ hSw; go_simp) <;> (with_reducible rfl)
          try simp only [Act.put, List.setIfInBounds_toArray, List.set_cons_zero, List.set_cons_succ]
          refine wpAnyH_take (i := 17) (oi := ⟨some 121, _, _, _, _, _⟩) (v := ?_) rfl (by kernel_rfl) (by kernel_rfl) (by kernel_rfl) (fun _ _ _ h => h) (Or.inl ⟨by rfl, ?_⟩) (by assumption) ?_
          rotate_left 1
          · (intro w hSw; (try dsimp only at hSw); obtain ⟨⟨p0, p1, p2, p3, p4⟩, r0, r1, r2, r3, r4, r5⟩ := HSKwc.out _ hSw; go_simp) <;> (with_reducible rfl)
          try simp only [Act.put, List.setIfInBounds_toArray, List.set_cons_zero, List.set_cons_succ]
          refine wpAnyH_take (i := 18) (oi := ⟨some 122, _, _, _, _, _⟩) (v := undef) rfl (by kernel_rfl) (by kernel_rfl) (by kernel_rfl) (fun _ _ _ h => h) (Or.inr ⟨by rfl, rfl⟩) (by assumption) ?_
          try simp only [Act.put, List.setIfInBounds_toArray, List.set_cons_zero, List.set_cons_succ]
          refine wpAnyH_take (i := 19) (oi := ⟨some 123, _, _, _, _, _⟩) (v := undef) rfl (by kernel_rfl) (by kernel_rfl) (by kernel_rfl) (fun _ _ _ h => h) (Or.inr ⟨by rfl, rfl⟩) (by assumption) ?_
          try simp only [Act.put, List.setIfInBounds_toArray, List.set_cons_zero, List.set_cons_succ]
          refine wpAnyH_take (i := 20) (oi := ⟨some 124, _, _, _, _, _⟩) (v := undef) rfl (by kernel_rfl) (by kernel_rfl) (by kernel_rfl) (fun _ _ _ h => h) (Or.inr ⟨by rfl, rfl⟩) (by assumption) ?_
          try simp only [Act.put, List.setIfInBounds_toArray, List.set_cons_zero, List.set_cons_succ]
          refine wpAnyH_take (i := 21) (oi := ⟨some 125, _, _, _, _, _⟩) (v := undef) rfl (by kernel_rfl) (by kernel_rfl) (by kernel_rfl) (fun _ _ _ h => h) (Or.inr ⟨by rfl, rfl⟩) (by assumption) ?_
          try simp only [Act.put, List.setIfInBounds_toArray, List.set_cons_zero, List.set_cons_succ]
          refine wpAnyH_take (i := 22) (oi := ⟨some 126, _, _, _, _, _⟩) (v := undef) rfl (by kernel_rfl) (by kernel_rfl) (by kernel_rfl) (fun _ _ _ h => h) (Or.inr ⟨by rfl, rfl⟩) (by assumption) ?_
          try simp only [Act.put, List.setIfInBounds_toArray, List.set_cons_zero, List.set_cons_succ]
          refine wpAnyH_take (i := 23) (oi := ⟨some 127, _, _, _, _, _⟩) (v := ?_) rfl (by kernel_rfl) (by kernel_rfl) (by kernel_rfl) (fun _ _ _ h => h) (Or.inl ⟨by rfl, ?_⟩) (by assumption) ?_
          rotate_left 1
          · (intro w hSw; (try dsimp only at hSw); obtain ⟨⟨p0, p1, p2, p3, p4⟩, r0, r1, r2, r3, r4, r5⟩ := HSKwc.out _ hSw; go_simp) <;> (with_reducible rfl)
          try simp only [Act.put, List.setIfInBounds_toArray, List.set_cons_zero, List.set_cons_succ]
          refine wpAnyH_done (by kernel_rfl) ?_ _
          clear hHeld
          obtain ⟨y1, hy1⟩ : ∃ y1, y1 = wc.drew := ⟨_, rfl⟩
          have HFy1 : Hid (Fr NoBlk wc y1) := by show Fr _ _ _; rw [hy1]; exact (Fr.refl NoBlk _).drew
          rw [← hy1]
          clear hy1
          try go_wp2_with fail
          go_meet
          exact ⟨false, rfl, HBT, HRs.out.nofr HFy1.out, HFs.out.trans (HFy1.out.mono fun _ _ h => h.elim), HBs.out.fr HFy1.out (fun h => h), own_fr HCs.out HFy1.out (fun _ _ h => h)⟩
        have g1 : decide ((Rk1.ex : Int) ≤ (P.sq : Int)) = true := by simp; omega
        have g2 : decide (Rk1.ex ≤ P.sq) = true := by simp; omega
        have g3 : Rk1.ex ≤ P.sq := hge
        obtain ⟨dn, hdn⟩ : ∃ dn, dn = P.sq - Rk1.ex := ⟨_, rfl⟩
        have HDN := Lib.hid hdn
        have hsq64 := HNU.out.2.1
        have e1 : IntKind.u64.wrap ((P.sq : Int) - (Rk1.ex : Int)) = (dn : Int) := by
          simp only [IntKind.wrap, IntKind.bits, IntKind.signed]
          simp
          omega
        have e2 : ((P.sq : Int) - (Rk1.ex : Int)) % 18446744073709551616 = (dn : Int) := by omega
        have HGE := Lib.hid hge
        clear hge hdn hsq64
        by_cases hd16 : dn < 16
        rotate_left
        · have g4 : decide ((dn : Int) < 16) = false := by simp; omega
          have g5 : decide (dn < 16) = false := by simp; omega
          have g6 : ¬ dn < 16 := hd16
          have HBT : Hid (false = true ↔ fitsV (rv Rk1) P.sq) := ⟨fun h => (by cases h), fun h => absurd h.2.1 (by rw [HDN.out] at hd16; exact hd16)⟩
          clear hd16
          refine wp_region_held_drew (S := fun w' => Fr NoBlk wc w') (by kernel_rfl) (by exact (Fr.refl NoBlk wc).drew) (fun hHeld => ?_)
          refine wpAnyH_take (i := 0) (oi := ⟨some 104, _, _, _, _, _⟩) (v := ?_) rfl (by kernel_rfl) (by kernel_rfl) (by kernel_rfl) (fun _ _ _ h => h) (Or.inl ⟨by rfl, ?_⟩) (by assumption) ?_
          rotate_left 1
          · (intro w hSw; (try dsimp only at hSw); obtain ⟨⟨p0, p1, p2, p3, p4⟩, r0, r1, r2, r3, r4, r5⟩ := HSKwc.out _ hSw; go_simp) <;> (with_reducible rfl)
          try simp only [Act.put, List.setIfInBounds_toArray, List.set_cons_zero, List.set_cons_succ]
          refine wpAnyH_take (i := 1) (oi := ⟨some 105, _, _, _, _, _⟩) (v := ?_) rfl (by kernel_rfl) (by kernel_rfl) (by kernel_rfl) (fun _ _ _ h => h) (Or.inl ⟨by rfl, ?_⟩) (by assumption) ?_
          rotate_left 1
          · (intro w hSw; (try dsimp only at hSw); obtain ⟨⟨p0, p1, p2, p3, p4⟩, r0, r1, r2, r3, r4, r5⟩ := HSKwc.out _ hSw; go_simp) <;> (with_reducible rfl)
          try simp only [Act.put, List.setIfInBounds_toArray, List.set_cons_zero, List.set_cons_succ]
          refine wpAnyH_take (i := 2) (oi := ⟨some 106, _, _, _, _, _⟩) (v := ?_) rfl (by kernel_rfl) (by kernel_rfl) (by kernel_rfl) (fun _ _ _ h => h) (Or.inl ⟨by rfl, ?_⟩) (by assumption) ?_
          rotate_left 1
          · (intro w hSw; (try dsimp only at hSw); obtain ⟨⟨p0, p1, p2, p3, p4⟩, r0, r1, r2, r3, r4, r5⟩ := HSKwc.out _ hSw; go_simp) <;> (with_reducible rfl)
          try simp only [Act.put, List.setIfInBounds_toArray, List.set_cons_zero, List.set_cons_succ]
          refine wpAnyH_take (i := 3) (oi := ⟨some 107, _, _, _, _, _⟩) (v := ?_) rfl (by kernel_rfl) (by kernel_rfl) (by kernel_rfl) (fun _ _ _ h => h) (Or.inl ⟨by rfl, ?_⟩) (by assumption) ?_
          rotate_left 1
          · (intro w hSw; (try dsimp only at hSw); obtain ⟨⟨p0, p1, p2, p3, p4⟩, r0, r1, r2, r3, r4, r5⟩ := HSKwc.out _ hSw; go_simp) <;> (with_reducible rfl)
          try simp only [Act.put, List.setIfInBounds_toArray, List.set_cons_zero, List.set_cons_succ]
          refine wpAnyH_take (i := 4) (oi := ⟨some 108, _, _, _, _, _⟩) (v := ?_) rfl (by kernel_rfl) (by kernel_rfl) (by kernel_rfl) (fun _ _ _ h => h) (Or.inl ⟨by rfl, ?_⟩) (by assumption) ?_
          rotate_left 1
          · (intro w hSw; (try dsimp only at hSw); obtain ⟨⟨p0, p1, p2, p3, p4⟩, r0, r1, r2, r3, r4, r5⟩ := HSKwc.out _ hSw; go_simp) <;> (with_reducible rfl)
          try simp only [Act.put, List.setIfInBounds_toArray, List.set_cons_zero, List.set_cons_succ]
          refine wpAnyH_take (i := 5) (oi := ⟨some 109, _, _, _, _, _⟩) (v := ?_) rfl (by kernel_rfl) (by kernel_rfl) (by kernel_rfl) (fun _ _ _ h => h) (Or.inl ⟨by rfl, ?_⟩) (by assumption) ?_
          rotate_left 1
          · (intro w hSw; (try dsimp only at hSw); obtain ⟨⟨p0, p1, p2, p3, p4⟩, r0, r1, r2, r3, r4, r5⟩ := HSKwc.out _ hSw; go_simp) <;> (with_reducible rfl)
          try simp only [Act.put, List.setIfInBounds_toArray, List.set_cons_zero, List.set_cons_succ]
          refine wpAnyH_take (i := 6) (oi := ⟨some 110, _, _, _, _, _⟩) (v := ?_) rfl (by kernel_rfl) (by kernel_rfl) (by kernel_rfl) (fun _ _ _ h => h) (Or.inl ⟨by rfl, ?_⟩) (by assumption) ?_
          rotate_left 1
          · (intro w hSw; (try dsimp only at hSw); obtain ⟨⟨p0, p1, p2, p3, p4⟩, r0, r1, r2, r3, r4, r5⟩ := HSKwc.out _ hSw; go_simp) <;> (with_reducible rfl)
          try simp only [Act.put, List.setIfInBounds_toArray, List.set_cons_zero, List.set_cons_succ]
          refine wpAnyH_take (i := 7) (oi := ⟨some 111, _, _, _, _, _⟩) (v := ?_) rfl (by kernel_rfl) (by kernel_rfl) (by kernel_rfl) (fun _ _ _ h => h) (Or.inl ⟨by rfl, ?_⟩) (by assumption) ?_
          rotate_left 1
          · (intro w hSw; (try dsimp only at hSw); obtain ⟨⟨p0, p1, p2, p3, p4⟩, r0, r1, r2, r3, r4, r5⟩ := HSKwc.out _ hSw; go_simp) <;> (with_reducible rfl)
          try simp only [Act.put, List.setIfInBounds_toArray, List.set_cons_zero, List.set_cons_succ]
          refine wpAnyH_take (i := 8) (oi := ⟨some 112, _, _, _, _, _⟩) (v := ?_) rfl (by kernel_rfl) (by kernel_rfl) (by kernel_rfl) (fun _ _ _ h => h) (Or.inl ⟨by rfl, ?_⟩) (by assumption) ?_
          rotate_left 1
          · (intro w hSw; (try dsimp only at hSw); obtain ⟨⟨p0, p1, p2, p3, p4⟩, r0, r1, r2, r3, r4, r5⟩ := HSKwc.out _ hSw; go_simp) <;> (with_reducible rfl)
          try simp only [Act.put, List.setIfInBounds_toArray, List.set_cons_zero, List.set_cons_succ]
          refine wpAnyH_take (i := 9) (oi := ⟨some 113, _, _, _, _, _⟩) (v := ?_) rfl (by kernel_rfl) (by kernel_rfl) (by kernel_rfl) (fun _ _ _ h => h) (Or.inl ⟨by rfl, ?_⟩) (by assumption) ?_
          rotate_left 1
          · (intro w hSw; (try dsimp only at hSw); obtain ⟨⟨p0, p1, p2, p3, p4⟩, r0, r1, r2, r3, r4, r5⟩ := HSKwc.out _ hSw; go_simp) <;> (with_reducible rfl)
          try simp only [Act.put, List.setIfInBounds_toArray, List.set_cons_zero, List.set_cons_succ]
          refine wpAnyH_take (i := 10) (oi := ⟨some 114, _, _, _, _, _⟩) (v := ?_) rfl (by kernel_rfl) (by kernel_rfl) (by kernel_rfl) (fun _ _ _ h => h) (Or.inl ⟨by rfl, ?_⟩) (by assumption) ?_
          rotate_left 1
          · (intro w hSw; (try dsimp only at hSw); obtain ⟨⟨p0, p1, p2, p3, p4⟩, r0, r1, r2, r3, r4, r5⟩ := HSKwc.out _ hSw; go_simp) <;> (with_reducible rfl)
          try simp only [Act.put, List.setIfInBounds_toArray, List.set_cons_zero, List.set_cons_succ]
          refine wpAnyH_take (i := 11) (oi := ⟨some 115, _, _, _, _, _⟩) (v := ?_) rfl (by kernel_rfl) (by kernel_rfl) (by kernel_rfl) (fun _ _ _ h => h) (Or.inl ⟨by rfl, ?_⟩) (by assumption) ?_
          rotate_left 1
          · (intro w hSw; (try dsimp only at hSw); obtain ⟨⟨p0, p1, p2, p3, p4⟩, r0, r1, r2, r3, r4, r5⟩ := HSKwc.out _ hSw; go_simp) <;> (with_reducible rfl)
          try simp only [Act.put, List.setIfInBounds_toArray, List.set_cons_zero, List.set_cons_succ]
          refine wpAnyH_take (i := 12) (oi := ⟨some 116, _, _, _, _, _⟩) (v := ?_) rfl (by kernel_rfl) (by kernel_rfl) (by kernel_rfl) (fun _ _ _ h => h) (Or.inl ⟨by rfl, ?_⟩) (by assumption) ?_
          rotate_left 1
          · (intro w hSw; (try dsimp only at hSw); obtain ⟨⟨p0, p1, p2, p3, p4⟩, r0, r1, r2, r3, r4, r5⟩ := HSKwc.out _ hSw; go_simp) <;> (with_reducible rfl)
          try simp only [Act.put, List.setIfInBounds_toArray, List.set_cons_zero, List.set_cons_succ]
          refine wpAnyH_take (i := 13) (oi := ⟨some 117, _, _, _, _, _⟩) (v := ?_) rfl (by kernel_rfl) (by kernel_rfl) (by kernel_rfl) (fun _ _ _ h => h) (Or.inl ⟨by rfl, ?_⟩) (by assumption) ?_
          rotate_left 1
          · (intro w hSw; (try dsimp only at hSw); obtain ⟨⟨p0, p1, p2, p3, p4⟩, r0, r1, r2, r3, r4, r5⟩ := HSKwc.out _ hSw; go_simp) <;> (with_reducible rfl)
          try simp only [Act.put, List.setIfInBounds_toArray, List.set_cons_zero, List.set_cons_succ]
          refine wpAnyH_take (i := 14) (oi := ⟨some 118, _, _, _, _, _⟩) (v := ?_) rfl (by kernel_rfl) (by kernel_rfl) (by kernel_rfl) (fun _ _ _ h => h) (Or.inl ⟨by rfl, ?_⟩) (by assumption) ?_
          rotate_left 1
          · (intro w hSw; (try dsimp only at hSw); obtain ⟨⟨p0, p1, p2, p3, p4⟩, r0, r1, r2, r3, r4, r5⟩ := HSKwc.out _ hSw; go_simp) <;> (with_reducible rfl)
          try simp only [Act.put, List.setIfInBounds_toArray, List.set_cons_zero, List.set_cons_succ]
          refine wpAnyH_take (i := 15) (oi := ⟨some 119, _, _, _, _, _⟩) (v := ?_) rfl (by kernel_rfl) (by kernel_rfl) (by kernel_rfl) (fun _ _ _ h => h) (Or.inl ⟨by rfl, ?_⟩) (by assumption) ?_
          rotate_left 1
          · (intro w hSw; (try dsimp only at hSw); obtain ⟨⟨p0, p1, p2, p3, p4⟩, r0, r1, r2, r3, r4, r5⟩ := HSKwc.out _ hSw; go_simp) <;> (with_reducible rfl)
          try simp only [Act.put, List.setIfInBounds_toArray, List.set_cons_zero, List.set_cons_succ]
          refine wpAnyH_take (i := 16) (oi := ⟨some 120, _, _, _, _, _⟩) (v := ?_) rfl (by kernel_rfl) (by kernel_rfl) (by kernel_rfl) (fun _ _ _ h => h) (Or.inl ⟨by rfl, ?_⟩) (by assumption) ?_
          rotate_left 1
          · (intro w hSw; (try dsimp only at hSw); obtain ⟨⟨p0, p1, p2, p3, p4⟩, r0, r1, r2, r3, r4, r5⟩ := HSKwc.out _ hSw; go_simp) <;> (with_reducible rfl)
          try simp only [Act.put, List.setIfInBounds_toArray, List.set_cons_zero, List.set_cons_succ]
          refine wpAnyH_take (i := 17) (oi := ⟨some 121, _, _, _, _, _⟩) (v := ?_) rfl (by kernel_rfl) (by kernel_rfl) (by kernel_rfl) (fun _ _ _ h => h) (Or.inl ⟨by rfl, ?_⟩) (by assumption) ?_
          rotate_left 1
          · (intro w hSw; (try dsimp only at hSw); obtain ⟨⟨p0, p1, p2, p3, p4⟩, r0, r1, r2, r3, r4, r5⟩ := HSKwc.out _ hSw; go_simp) <;> (with_reducible rfl)
          try simp only [Act.put, List.setIfInBounds_toArray, List.set_cons_zero, List.set_cons_succ]
          refine wpAnyH_take (i := 18) (oi := ⟨some 122, _, _, _, _, _⟩) (v := undef) rfl (by kernel_rfl) (by kernel_rfl) (by kernel_rfl) (fun _ _ _ h => h) (Or.inr ⟨by rfl, rfl⟩) (by assumption) ?_
          try simp only [Act.put, List.setIfInBounds_toArray, List.set_cons_zero, List.set_cons_succ]
          refine wpAnyH_take (i := 19) (oi := ⟨some 123, _, _, _, _, _⟩) (v := undef) rfl (by kernel_rfl) (by kernel_rfl) (by kernel_rfl) (fun _ _ _ h => h) (Or.inr ⟨by rfl, rfl⟩) (by assumption) ?_
          try simp only [Act.put, List.setIfInBounds_toArray, List.set_cons_zero, List.set_cons_succ]
          refine wpAnyH_take (i := 20) (oi := ⟨some 124, _, _, _, _, _⟩) (v := undef) rfl (by kernel_rfl) (by kernel_rfl) (by kernel_rfl) (fun _ _ _ h => h) (Or.inr ⟨by rfl, rfl⟩) (by assumption) ?_
          try simp only [Act.put, List.setIfInBounds_toArray, List.set_cons_zero, List.set_cons_succ]
          refine wpAnyH_take (i := 21) (oi := ⟨some 125, _, _, _, _, _⟩) (v := undef) rfl (by kernel_rfl) (by kernel_rfl) (by kernel_rfl) (fun _ _ _ h => h) (Or.inr ⟨by rfl, rfl⟩) (by assumption) ?_
          try simp only [Act.put, List.setIfInBounds_toArray, List.set_cons_zero, List.set_cons_succ]
          refine wpAnyH_take (i := 22) (oi := ⟨some 126, _, _, _, _, _⟩) (v := undef) rfl (by kernel_rfl) (by kernel_rfl) (by kernel_rfl) (fun _ _ _ h => h) (Or.inr ⟨by rfl, rfl⟩) (by assumption) ?_
          try simp only [Act.put, List.setIfInBounds_toArray, List.set_cons_zero, List.set_cons_succ]
          refine wpAnyH_take (i := 23) (oi := ⟨some 127, _, _, _, _, _⟩) (v := ?_) rfl (by kernel_rfl) (by kernel_rfl) (by kernel_rfl) (fun _ _ _ h => h) (Or.inl ⟨by rfl, ?_⟩) (by assumption) ?_
          rotate_left 1
          · (intro w hSw; (try dsimp only at hSw); obtain ⟨⟨p0, p1, p2, p3, p4⟩, r0, r1, r2, r3, r4, r5⟩ := HSKwc.out _ hSw; go_simp) <;> (with_reducible rfl)
          try simp only [Act.put, List.setIfInBounds_toArray, List.set_cons_zero, List.set_cons_succ]
          refine wpAnyH_done (by kernel_rfl) ?_ _
          clear hHeld
          obtain ⟨y1, hy1⟩ : ∃ y1, y1 = wc.drew := ⟨_, rfl⟩
          have HFy1 : Hid (Fr NoBlk wc y1) := by show Fr _ _ _; rw [hy1]; exact (Fr.refl NoBlk _).drew
          rw [← hy1]
          clear hy1
          try go_wp2_with fail
          go_meet
          exact ⟨false, rfl, HBT, HRs.out.nofr HFy1.out, HFs.out.trans (HFy1.out.mono fun _ _ h => h.elim), HBs.out.fr HFy1.out (fun h => h), own_fr HCs.out HFy1.out (fun _ _ h => h)⟩
        have g4 : decide ((dn : Int) < 16) = true := by simp; omega
        have g5 : decide (dn < 16) = true := by simp; omega
        have g6 : dn < 16 := hd16
        obtain ⟨ai, hai⟩ : ∃ ai, ai = atI Rk1.ers P.sq := ⟨_, rfl⟩
        have HBT : Hid (decide (ai < 0) = true ↔ fitsV (rv Rk1) P.sq) := by
          show _ ↔ _
          rw [decide_eq_true_iff, hai, atI_neg]
          constructor
          · exact fun h => ⟨HGE.out, by show P.sq - Rk1.ex < 16; rw [← HDN.out]; exact hd16, fun x hx => by
              obtain ⟨y, hy, rfl⟩ := List.mem_map.1 hx
              exact h y hy⟩
          · exact fun h x hx => h.2.2 (x.1, x.2.2.2) (List.mem_map.2 ⟨x, hx, rfl⟩)
        have HAT : Hid (∀ w', Fr NoBlk wc w' → Calls Try.prog 30 #[.pointer (some ⟨m, 0, none⟩), .int .u64 (P.sq : Int)] w' fun e W' => e = .returned (.int .i64 ai) ∧ w' = W') := fun w' hf => by rw [hai]; exact rat_any w' M m Rk1 (HRs.out.nofr hf) P.sq
        clear hd16 hai
        refine wp_region_held_drew (S := fun w' => Fr NoBlk wc w') (by kernel_rfl) (by exact (Fr.refl NoBlk wc).drew) (fun hHeld => ?_)
        obtain ⟨y0, hy0⟩ : ∃ y0, y0 = wc.drew := ⟨_, rfl⟩
        have HFy1 : Hid (Fr NoBlk wc y0) := by show Fr _ _ _; rw [hy0]; exact (Fr.refl NoBlk _).drew
        rw [← hy0] at hHeld ⊢
        clear hy0
        refine wpAnyH_take (i := 0) (oi := ⟨some 104, _, _, _, _, _⟩) (v := ?_) rfl (by kernel_rfl) (by kernel_rfl) (by kernel_rfl) (fun _ _ _ h => h) (Or.inl ⟨by rfl, ?_⟩) (by assumption) ?_
        rotate_left 1
        · (intro w hSw; (try dsimp only at hSw); obtain ⟨⟨p0, p1, p2, p3, p4⟩, r0, r1, r2, r3, r4, r5⟩ := HSKwc.out _ hSw; go_simp) <;> (with_reducible rfl)
        try simp only [Act.put, List.setIfInBounds_toArray, List.set_cons_zero, List.set_cons_succ]
        refine wpAnyH_take (i := 1) (oi := ⟨some 105, _, _, _, _, _⟩) (v := ?_) rfl (by kernel_rfl) (by kernel_rfl) (by kernel_rfl) (fun _ _ _ h => h) (Or.inl ⟨by rfl, ?_⟩) (by assumption) ?_
        rotate_left 1
        · (intro w hSw; (try dsimp only at hSw); obtain ⟨⟨p0, p1, p2, p3, p4⟩, r0, r1, r2, r3, r4, r5⟩ := HSKwc.out _ hSw; go_simp) <;> (with_reducible rfl)
        try simp only [Act.put, List.setIfInBounds_toArray, List.set_cons_zero, List.set_cons_succ]
        refine wpAnyH_take (i := 2) (oi := ⟨some 106, _, _, _, _, _⟩) (v := ?_) rfl (by kernel_rfl) (by kernel_rfl) (by kernel_rfl) (fun _ _ _ h => h) (Or.inl ⟨by rfl, ?_⟩) (by assumption) ?_
        rotate_left 1
        · (intro w hSw; (try dsimp only at hSw); obtain ⟨⟨p0, p1, p2, p3, p4⟩, r0, r1, r2, r3, r4, r5⟩ := HSKwc.out _ hSw; go_simp) <;> (with_reducible rfl)
        try simp only [Act.put, List.setIfInBounds_toArray, List.set_cons_zero, List.set_cons_succ]
        refine wpAnyH_take (i := 3) (oi := ⟨some 107, _, _, _, _, _⟩) (v := ?_) rfl (by kernel_rfl) (by kernel_rfl) (by kernel_rfl) (fun _ _ _ h => h) (Or.inl ⟨by rfl, ?_⟩) (by assumption) ?_
        rotate_left 1
        · (intro w hSw; (try dsimp only at hSw); obtain ⟨⟨p0, p1, p2, p3, p4⟩, r0, r1, r2, r3, r4, r5⟩ := HSKwc.out _ hSw; go_simp) <;> (with_reducible rfl)
        try simp only [Act.put, List.setIfInBounds_toArray, List.set_cons_zero, List.set_cons_succ]
        refine wpAnyH_take (i := 4) (oi := ⟨some 108, _, _, _, _, _⟩) (v := ?_) rfl (by kernel_rfl) (by kernel_rfl) (by kernel_rfl) (fun _ _ _ h => h) (Or.inl ⟨by rfl, ?_⟩) (by assumption) ?_
        rotate_left 1
        · (intro w hSw; (try dsimp only at hSw); obtain ⟨⟨p0, p1, p2, p3, p4⟩, r0, r1, r2, r3, r4, r5⟩ := HSKwc.out _ hSw; go_simp) <;> (with_reducible rfl)
        try simp only [Act.put, List.setIfInBounds_toArray, List.set_cons_zero, List.set_cons_succ]
        refine wpAnyH_take (i := 5) (oi := ⟨some 109, _, _, _, _, _⟩) (v := ?_) rfl (by kernel_rfl) (by kernel_rfl) (by kernel_rfl) (fun _ _ _ h => h) (Or.inl ⟨by rfl, ?_⟩) (by assumption) ?_
        rotate_left 1
        · (intro w hSw; (try dsimp only at hSw); obtain ⟨⟨p0, p1, p2, p3, p4⟩, r0, r1, r2, r3, r4, r5⟩ := HSKwc.out _ hSw; go_simp) <;> (with_reducible rfl)
        try simp only [Act.put, List.setIfInBounds_toArray, List.set_cons_zero, List.set_cons_succ]
        refine wpAnyH_take (i := 6) (oi := ⟨some 110, _, _, _, _, _⟩) (v := ?_) rfl (by kernel_rfl) (by kernel_rfl) (by kernel_rfl) (fun _ _ _ h => h) (Or.inl ⟨by rfl, ?_⟩) (by assumption) ?_
        rotate_left 1
        · (intro w hSw; (try dsimp only at hSw); obtain ⟨⟨p0, p1, p2, p3, p4⟩, r0, r1, r2, r3, r4, r5⟩ := HSKwc.out _ hSw; go_simp) <;> (with_reducible rfl)
        try simp only [Act.put, List.setIfInBounds_toArray, List.set_cons_zero, List.set_cons_succ]
        refine wpAnyH_take (i := 7) (oi := ⟨some 111, _, _, _, _, _⟩) (v := ?_) rfl (by kernel_rfl) (by kernel_rfl) (by kernel_rfl) (fun _ _ _ h => h) (Or.inl ⟨by rfl, ?_⟩) (by assumption) ?_
        rotate_left 1
        · (intro w hSw; (try dsimp only at hSw); obtain ⟨⟨p0, p1, p2, p3, p4⟩, r0, r1, r2, r3, r4, r5⟩ := HSKwc.out _ hSw; go_simp) <;> (with_reducible rfl)
        try simp only [Act.put, List.setIfInBounds_toArray, List.set_cons_zero, List.set_cons_succ]
        refine wpAnyH_take (i := 8) (oi := ⟨some 112, _, _, _, _, _⟩) (v := ?_) rfl (by kernel_rfl) (by kernel_rfl) (by kernel_rfl) (fun _ _ _ h => h) (Or.inl ⟨by rfl, ?_⟩) (by assumption) ?_
        rotate_left 1
        · (intro w hSw; (try dsimp only at hSw); obtain ⟨⟨p0, p1, p2, p3, p4⟩, r0, r1, r2, r3, r4, r5⟩ := HSKwc.out _ hSw; go_simp) <;> (with_reducible rfl)
        try simp only [Act.put, List.setIfInBounds_toArray, List.set_cons_zero, List.set_cons_succ]
        refine wpAnyH_take (i := 9) (oi := ⟨some 113, _, _, _, _, _⟩) (v := ?_) rfl (by kernel_rfl) (by kernel_rfl) (by kernel_rfl) (fun _ _ _ h => h) (Or.inl ⟨by rfl, ?_⟩) (by assumption) ?_
        rotate_left 1
        · (intro w hSw; (try dsimp only at hSw); obtain ⟨⟨p0, p1, p2, p3, p4⟩, r0, r1, r2, r3, r4, r5⟩ := HSKwc.out _ hSw; go_simp) <;> (with_reducible rfl)
        try simp only [Act.put, List.setIfInBounds_toArray, List.set_cons_zero, List.set_cons_succ]
        refine wpAnyH_take (i := 10) (oi := ⟨some 114, _, _, _, _, _⟩) (v := ?_) rfl (by kernel_rfl) (by kernel_rfl) (by kernel_rfl) (fun _ _ _ h => h) (Or.inl ⟨by rfl, ?_⟩) (by assumption) ?_
        rotate_left 1
        · (intro w hSw; (try dsimp only at hSw); obtain ⟨⟨p0, p1, p2, p3, p4⟩, r0, r1, r2, r3, r4, r5⟩ := HSKwc.out _ hSw; go_simp) <;> (with_reducible rfl)
        try simp only [Act.put, List.setIfInBounds_toArray, List.set_cons_zero, List.set_cons_succ]
        refine wpAnyH_take (i := 11) (oi := ⟨some 115, _, _, _, _, _⟩) (v := ?_) rfl (by kernel_rfl) (by kernel_rfl) (by kernel_rfl) (fun _ _ _ h => h) (Or.inl ⟨by rfl, ?_⟩) (by assumption) ?_
        rotate_left 1
        · (intro w hSw; (try dsimp only at hSw); obtain ⟨⟨p0, p1, p2, p3, p4⟩, r0, r1, r2, r3, r4, r5⟩ := HSKwc.out _ hSw; go_simp) <;> (with_reducible rfl)
        try simp only [Act.put, List.setIfInBounds_toArray, List.set_cons_zero, List.set_cons_succ]
        refine wpAnyH_take (i := 12) (oi := ⟨some 116, _, _, _, _, _⟩) (v := ?_) rfl (by kernel_rfl) (by kernel_rfl) (by kernel_rfl) (fun _ _ _ h => h) (Or.inl ⟨by rfl, ?_⟩) (by assumption) ?_
        rotate_left 1
        · (intro w hSw; (try dsimp only at hSw); obtain ⟨⟨p0, p1, p2, p3, p4⟩, r0, r1, r2, r3, r4, r5⟩ := HSKwc.out _ hSw; go_simp) <;> (with_reducible rfl)
        try simp only [Act.put, List.setIfInBounds_toArray, List.set_cons_zero, List.set_cons_succ]
        refine wpAnyH_take (i := 13) (oi := ⟨some 117, _, _, _, _, _⟩) (v := ?_) rfl (by kernel_rfl) (by kernel_rfl) (by kernel_rfl) (fun _ _ _ h => h) (Or.inl ⟨by rfl, ?_⟩) (by assumption) ?_
        rotate_left 1
        · (intro w hSw; (try dsimp only at hSw); obtain ⟨⟨p0, p1, p2, p3, p4⟩, r0, r1, r2, r3, r4, r5⟩ := HSKwc.out _ hSw; go_simp) <;> (with_reducible rfl)
        try simp only [Act.put, List.setIfInBounds_toArray, List.set_cons_zero, List.set_cons_succ]
        refine wpAnyH_take (i := 14) (oi := ⟨some 118, _, _, _, _, _⟩) (v := ?_) rfl (by kernel_rfl) (by kernel_rfl) (by kernel_rfl) (fun _ _ _ h => h) (Or.inl ⟨by rfl, ?_⟩) (by assumption) ?_
        rotate_left 1
        · (intro w hSw; (try dsimp only at hSw); obtain ⟨⟨p0, p1, p2, p3, p4⟩, r0, r1, r2, r3, r4, r5⟩ := HSKwc.out _ hSw; go_simp) <;> (with_reducible rfl)
        try simp only [Act.put, List.setIfInBounds_toArray, List.set_cons_zero, List.set_cons_succ]
        refine wpAnyH_take (i := 15) (oi := ⟨some 119, _, _, _, _, _⟩) (v := ?_) rfl (by kernel_rfl) (by kernel_rfl) (by kernel_rfl) (fun _ _ _ h => h) (Or.inl ⟨by rfl, ?_⟩) (by assumption) ?_
        rotate_left 1
        · (intro w hSw; (try dsimp only at hSw); obtain ⟨⟨p0, p1, p2, p3, p4⟩, r0, r1, r2, r3, r4, r5⟩ := HSKwc.out _ hSw; go_simp) <;> (with_reducible rfl)
        try simp only [Act.put, List.setIfInBounds_toArray, List.set_cons_zero, List.set_cons_succ]
        refine wpAnyH_take (i := 16) (oi := ⟨some 120, _, _, _, _, _⟩) (v := ?_) rfl (by kernel_rfl) (by kernel_rfl) (by kernel_rfl) (fun _ _ _ h => h) (Or.inl ⟨by rfl, ?_⟩) (by assumption) ?_
        rotate_left 1
        · (intro w hSw; (try dsimp only at hSw); obtain ⟨⟨p0, p1, p2, p3, p4⟩, r0, r1, r2, r3, r4, r5⟩ := HSKwc.out _ hSw; go_simp) <;> (with_reducible rfl)
        try simp only [Act.put, List.setIfInBounds_toArray, List.set_cons_zero, List.set_cons_succ]
        refine wpAnyH_take (i := 17) (oi := ⟨some 121, _, _, _, _, _⟩) (v := ?_) rfl (by kernel_rfl) (by kernel_rfl) (by kernel_rfl) (fun _ _ _ h => h) (Or.inl ⟨by rfl, ?_⟩) (by assumption) ?_
        rotate_left 1
        · (intro w hSw; (try dsimp only at hSw); obtain ⟨⟨p0, p1, p2, p3, p4⟩, r0, r1, r2, r3, r4, r5⟩ := HSKwc.out _ hSw; go_simp) <;> (with_reducible rfl)
        try simp only [Act.put, List.setIfInBounds_toArray, List.set_cons_zero, List.set_cons_succ]
        refine wpAnyH_take (i := 18) (oi := ⟨some 122, _, _, _, _, _⟩) (v := ?_) rfl (by kernel_rfl) (by kernel_rfl) (by kernel_rfl) (fun _ _ _ h => h) (Or.inl ⟨by rfl, ?_⟩) (by assumption) ?_
        rotate_left 1
        · (intro w hSw; (try dsimp only at hSw); obtain ⟨⟨p0, p1, p2, p3, p4⟩, r0, r1, r2, r3, r4, r5⟩ := HSKwc.out _ hSw; go_simp) <;> (with_reducible rfl)
        try simp only [Act.put, List.setIfInBounds_toArray, List.set_cons_zero, List.set_cons_succ]
        refine wpAnyH_take (i := 19) (oi := ⟨some 123, _, _, _, _, _⟩) (v := ?_) rfl (by kernel_rfl) (by kernel_rfl) (by kernel_rfl) (fun _ _ _ h => h) (Or.inl ⟨by rfl, ?_⟩) (by assumption) ?_
        rotate_left 1
        · (intro w hSw; (try dsimp only at hSw); obtain ⟨⟨p0, p1, p2, p3, p4⟩, r0, r1, r2, r3, r4, r5⟩ := HSKwc.out _ hSw; go_simp) <;> (with_reducible rfl)
        try simp only [Act.put, List.setIfInBounds_toArray, List.set_cons_zero, List.set_cons_succ]
        refine wpAnyH_take (i := 20) (oi := ⟨some 124, _, _, _, _, _⟩) (v := ?_) rfl (by kernel_rfl) (by kernel_rfl) (by kernel_rfl) (fun _ _ _ h => h) (Or.inl ⟨by rfl, ?_⟩) (by assumption) ?_
        rotate_left 1
        · (intro w hSw; (try dsimp only at hSw); obtain ⟨⟨p0, p1, p2, p3, p4⟩, r0, r1, r2, r3, r4, r5⟩ := HSKwc.out _ hSw; go_simp) <;> (with_reducible rfl)
        try simp only [Act.put, List.setIfInBounds_toArray, List.set_cons_zero, List.set_cons_succ]
        refine wpAnyH_ready (rs := [21]) (by kernel_rfl) (by simp) ?_
        refine AllReadyH.cons (o := ⟨some 125, _, _, _, _, _⟩) rfl (fun K hK => ?_) AllReadyH.nil
        have hSw := hHeld
        go_simp
        go_at_call 30
        refine (HAT.out _ hSw).mono ?_
        rintro e w' ⟨rfl, rfl⟩
        refine hK.out _ _ ?_ (fun hHeld => ?_)
        · assumption
        clear hK K
        try simp only [Act.put, List.setIfInBounds_toArray, List.set_cons_zero, List.set_cons_succ]
        refine wpAnyH_take (i := 22) (oi := ⟨some 126, _, _, _, _, _⟩) (v := ?_) rfl (by kernel_rfl) (by kernel_rfl) (by kernel_rfl) (fun _ _ _ h => h) (Or.inl ⟨by rfl, ?_⟩) (by assumption) ?_
        rotate_left 1
        · (intro w hSw; (try dsimp only at hSw); obtain ⟨⟨p0, p1, p2, p3, p4⟩, r0, r1, r2, r3, r4, r5⟩ := HSKwc.out _ hSw; go_simp) <;> (with_reducible rfl)
        try simp only [Act.put, List.setIfInBounds_toArray, List.set_cons_zero, List.set_cons_succ]
        refine wpAnyH_take (i := 23) (oi := ⟨some 127, _, _, _, _, _⟩) (v := ?_) rfl (by kernel_rfl) (by kernel_rfl) (by kernel_rfl) (fun _ _ _ h => h) (Or.inl ⟨by rfl, ?_⟩) (by assumption) ?_
        rotate_left 1
        · (intro w hSw; (try dsimp only at hSw); obtain ⟨⟨p0, p1, p2, p3, p4⟩, r0, r1, r2, r3, r4, r5⟩ := HSKwc.out _ hSw; go_simp) <;> (with_reducible rfl)
        try simp only [Act.put, List.setIfInBounds_toArray, List.set_cons_zero, List.set_cons_succ]
        refine wpAnyH_done (by kernel_rfl) ?_ _
        clear hHeld
        try go_wp2_with fail
        go_meet
        exact ⟨decide (ai < 0), rfl, HBT, HRs.out.nofr HFy1.out, HFs.out.trans (HFy1.out.mono fun _ _ h => h.elim), HBs.out.fr HFy1.out (fun h => h), own_fr HCs.out HFy1.out (fun _ _ h => h)⟩
      case rest =>
        obtain ⟨bt, rfl, HBT, HRt, HFt, HBt, HCt⟩ := hcut
        clear HRs HFs HBs HCs HSKwc
        have HNG : Hid (¬ M gc) := fun h => by have := HR.out.ml gc h; have := (own_blk HCt.out (k := gc) rfl).1; omega
        have HNM : Hid (¬ gc = m) := fun e => by have := HMB.out; have := HGB.out; have := (own_blk HCt.out (k := gc) rfl).1; omega
        go_upto_if 127 with fail
        go_cut [7] (fun s7 wx => s7 = (.slice (some ⟨gc, 0, none⟩) 0 0) ∧ ∃ (M2 : Nat → Prop) (R2 : Rk), Hid (AddV (rv Rk1) P.sq P.d.2.2 (rv R2)) ∧ Hid (R2.ers.length ≤ 1000 ∧ R2.ex < 2 ^ 63) ∧ Hid (∀ k, M2 k → M k ∨ W.heap.size ≤ k) ∧ Hid (¬ M2 gc) ∧ Hid (RkIn M2 wx m R2) ∧ Hid (Fr (fun k => k = m) W wx) ∧ Hid (wx.ownsRow W.heap.size 30 1 (.slice (some ⟨gc, 0, none⟩) 0 0) 0 []))
        case first => as_aux_lemma =>
          cases bt with
          | false =>
            have HADD : Hid (AddV (rv Rk1) P.sq P.d.2.2 (rv Rk1)) := .inr ⟨fun h => (by have := HBT.out.2 h; cases this), rfl⟩
            go_wp2_with fail
            go_meet
            exact ⟨rfl, M, Rk1, HADD, ⟨Nat.le_of_lt HE1.out.1, HE1.out.2⟩, (fun k h => .inl h), HNG, HRt, HFt, HCt⟩
          | true =>
            have HADD : Hid (∀ (A : Option Addr) (c : Nat) (a : Option Addr) (c' : Nat), AddV (rv Rk1) P.sq P.d.2.2 (rv { Rk1 with ae := A, ce := c, ers := Rk1.ers ++ [(P.sq, (a, c', P.d.2.2))] })) := fun A c a c' => .inl ⟨HBT.out.1 rfl, by
              show Rv.mk _ _ _ _ _ _ = Rv.mk _ _ _ _ _ _
              rw [List.map_append]
              rfl⟩
            have HPW : Hid (Rd wc P.d.1 (cb P.d.2.2)) := HPD.out.1.fr' HFt.out fun hp k hk => rd_apart HR.out HPD.out.1 hp k hk
            have HSKP : Hid (∀ w', Fr (fun k => k = m) wc w' → w'.cell? ⟨gb, 2, none⟩ = some (.int .u64 (P.sq : Int)) ∧ w'.cell? ⟨gb, 4, none⟩ = some (.slice P.d.1 P.d.2.2.length P.d.2.1)) := fun w' hf => by
              have hb := HBt.out.fr hf (fun e => by have := HMB.out; omega)
              exact ⟨hb.cell 2, hb.cell 4⟩
            obtain ⟨i0, hi, hz0, hz1, hz2⟩ := info_parts earInfo
            obtain ⟨j0, hj, hy0, hy1, hy2⟩ := info_parts byteInfo
            go_upto_region 17 with fail
            refine wp_region_held_drew (S := fun w' => Fr (fun k => k = m) wc w') (by kernel_rfl) (by exact (Fr.refl _ wc).drew) (fun hHeld => ?_)
            obtain ⟨x20, hx20⟩ : ∃ x20, x20 = wc.drew := ⟨_, rfl⟩
            have HFx20 : Hid (Fr NoBlk wc x20) := by show Fr _ _ _; rw [hx20]; exact (Fr.refl NoBlk wc).drew
            rw [← hx20] at hHeld ⊢
            clear hx20
            refine wpAnyH_take (i := 0) (oi := ⟨some 128, _, _, _, _, _⟩) (v := ?_) rfl (by kernel_rfl) (by kernel_rfl) (by kernel_rfl) (fun _ _ _ h => h) (Or.inl ⟨by rfl, ?_⟩) (by assumption) ?_
            rotate_left 1
            · (intro w hSw; (try dsimp only at hSw); go_simp) <;> (with_reducible rfl)
            try simp only [Act.put, List.setIfInBounds_toArray, List.set_cons_zero, List.set_cons_succ]
            refine wpAnyH_take (i := 2) (oi := ⟨some 130, _, _, _, _, _⟩) (v := ?_) rfl (by kernel_rfl) (by kernel_rfl) (by kernel_rfl) (fun _ _ _ h => h) (Or.inl ⟨by rfl, ?_⟩) (by assumption) ?_
            rotate_left 1
            · (intro w hSw; (try dsimp only at hSw); go_simp) <;> (with_reducible rfl)
            try simp only [Act.put, List.setIfInBounds_toArray, List.set_cons_zero, List.set_cons_succ]
            refine wpAnyH_take (i := 3) (oi := ⟨some 131, _, _, _, _, _⟩) (v := ?_) rfl (by kernel_rfl) (by kernel_rfl) (by kernel_rfl) (fun _ _ _ h => h) (Or.inl ⟨by rfl, ?_⟩) (by assumption) ?_
            rotate_left 1
            · (intro w hSw; (try dsimp only at hSw); go_simp) <;> (with_reducible rfl)
            try simp only [Act.put, List.setIfInBounds_toArray, List.set_cons_zero, List.set_cons_succ]
            refine wpAnyH_take (i := 4) (oi := ⟨some 132, _, _, _, _, _⟩) (v := ?_) rfl (by kernel_rfl) (by kernel_rfl) (by kernel_rfl) (fun _ _ _ h => h) (Or.inl ⟨by rfl, ?_⟩) (by assumption) ?_
            rotate_left 1
            · (intro w hSw; (try dsimp only at hSw); go_simp) <;> (with_reducible rfl)
            try simp only [Act.put, List.setIfInBounds_toArray, List.set_cons_zero, List.set_cons_succ]
            refine wpAnyH_take (i := 7) (oi := ⟨some 135, _, _, _, _, _⟩) (v := ?_) rfl (by kernel_rfl) (by kernel_rfl) (by kernel_rfl) (fun _ _ _ h => h) (Or.inl ⟨by rfl, ?_⟩) (by assumption) ?_
            rotate_left 1
            · (intro w hSw; (try dsimp only at hSw); go_simp) <;> (with_reducible rfl)
            try simp only [Act.put, List.setIfInBounds_toArray, List.set_cons_zero, List.set_cons_succ]
            refine wpAnyH_take (i := 8) (oi := ⟨some 136, _, _, _, _, _⟩) (v := ?_) rfl (by kernel_rfl) (by kernel_rfl) (by kernel_rfl) (fun _ _ _ h => h) (Or.inl ⟨by rfl, ?_⟩) (by assumption) ?_
            rotate_left 1
            · (intro w hSw; (try dsimp only at hSw); obtain ⟨p2, p4⟩ := HSKP.out _ hSw; go_simp) <;> (with_reducible rfl)
            try simp only [Act.put, List.setIfInBounds_toArray, List.set_cons_zero, List.set_cons_succ]
            refine wpAnyH_take (i := 10) (oi := ⟨some 138, _, _, _, _, _⟩) (v := ?_) rfl (by kernel_rfl) (by kernel_rfl) (by kernel_rfl) (fun _ _ _ h => h) (Or.inl ⟨by rfl, ?_⟩) (by assumption) ?_
            rotate_left 1
            · (intro w hSw; (try dsimp only at hSw); go_simp) <;> (with_reducible rfl)
            try simp only [Act.put, List.setIfInBounds_toArray, List.set_cons_zero, List.set_cons_succ]
            refine wpAnyH_take (i := 11) (oi := ⟨some 139, _, _, _, _, _⟩) (v := ?_) rfl (by kernel_rfl) (by kernel_rfl) (by kernel_rfl) (fun _ _ _ h => h) (Or.inl ⟨by rfl, ?_⟩) (by assumption) ?_
            rotate_left 1
            · (intro w hSw; (try dsimp only at hSw); obtain ⟨p2, p4⟩ := HSKP.out _ hSw; go_simp) <;> (with_reducible rfl)
            try simp only [Act.put, List.setIfInBounds_toArray, List.set_cons_zero, List.set_cons_succ]
            refine wpAnyH_ready (rs := [1, 5, 9]) (by kernel_rfl) (by simp) ?_
            refine AllReadyH.cons (o := ⟨some 129, _, _, _, _, _⟩) rfl (fun K hK => ?_) (AllReadyH.cons (o := ⟨some 133, _, _, _, _, _⟩) rfl (fun K hK => ?_) (AllReadyH.cons (o := ⟨some 137, _, _, _, _, _⟩) rfl (fun K hK => ?_) AllReadyH.nil))
            focus
              go_simp
              obtain ⟨x21, hx21⟩ : ∃ x21, x21 = x20.alloc (.cells #[] 76) := ⟨_, rfl⟩
              obtain ⟨e1, he1⟩ : ∃ e1, e1 = x20.heap.size := ⟨_, rfl⟩
              have hfr : Fr NoBlk x20 x21 := by rw [hx21]; exact (Fr.refl _ _).alloc _
              have HFx21 : Hid (Fr NoBlk wc x21) := HFx20.out.trans hfr
              have HOx21 : Hid (x21.ownsRow wc.heap.size 76 2 (.slice (some ⟨e1, 0, none⟩) 0 0) 0 []) := by show World.ownsRow _ _ _ _ _ _ _; rw [hx21, he1]; exact own_base (World.ownsRow_made x20 #[] 0 (Nat.le_refl _) (by decide) rfl) HFx20.out.size
              rw [← hx21, ← he1]
              clear hx21 hfr he1
              clear hHeld
              refine hK.out _ _ ?_ (fun hHeld => ?_)
              · exact HFx21.out.mono fun _ _ h => h.elim
              clear hK K
              try simp only [Act.put, List.setIfInBounds_toArray, List.set_cons_zero, List.set_cons_succ]
              refine wpAnyH_ready (rs := [5, 9]) (by kernel_rfl) (by simp) ?_
              refine AllReadyH.cons (o := ⟨some 133, _, _, _, _, _⟩) rfl (fun K hK => ?_) (AllReadyH.cons (o := ⟨some 137, _, _, _, _, _⟩) rfl (fun K hK => ?_) AllReadyH.nil)
              focus
                obtain ⟨_, _, _, _, _, oN⟩ := (HRt.out.nofr HFx21.out).cells
                go_simp
                clear oN
                clear hHeld
                refine hK.out _ _ ?_ (fun hHeld => ?_)
                · exact HFx21.out.mono fun _ _ h => h.elim
                clear hK K
                try simp only [Act.put, List.setIfInBounds_toArray, List.set_cons_zero, List.set_cons_succ]
                refine wpAnyH_ready (rs := [6, 9]) (by kernel_rfl) (by simp) ?_
                refine AllReadyH.cons (o := ⟨some 134, _, _, _, _, _⟩) rfl (fun K hK => ?_) (AllReadyH.cons (o := ⟨some 137, _, _, _, _, _⟩) rfl (fun K hK => ?_) AllReadyH.nil)
                focus
                  refine step_appN rfl _ _ 46 rfl wc.heap.size 76 i0 _ 2 32 Try.underlying46 hi hz0 hz1 hz2 rfl (by decide) (.slice (some ⟨e1, 0, none⟩) 0 0) 0 [] rfl HOx21.out Rk1.ae Rk1.ce Rk1.ers.length (ersc Rk1.ers) rfl (ersc_len Rk1.ers) ((HRt.out.nofr HFx21.out).ear.rd) (ersc_one Rk1.ers) HRt.out.earc.2.2 ?q1 ?q2 HFx21.out.size ?_
                  case q1 => have := HE1.out.1; unfold maxLen; omega
                  case q2 => have := HE1.out.1; omega
                  intro v6 x22 ho6 hg6 hb6
                  simp only [Nat.zero_add, List.nil_append] at ho6
                  obtain ⟨A6, c6, rfl, _, _⟩ := own_form ho6
                  have HOx22 : Hid (x22.ownsRow wc.heap.size 76 2 (.slice A6 Rk1.ers.length c6) Rk1.ers.length (ersc Rk1.ers)) := ho6
                  have HFx22 : Hid (Fr NoBlk wc x22) := HFx21.out.grown hg6 (fun k hk hlt => by have := (own_blk HOx21.out hk).1; omega)
                  try dsimp only
                  clear ho6 hg6 hb6
                  clear hHeld
                  refine hK.out _ _ ?_ (fun hHeld => ?_)
                  · exact HFx22.out.mono fun _ _ h => h.elim
                  clear hK K
                  try simp only [Act.put, List.setIfInBounds_toArray, List.set_cons_zero, List.set_cons_succ]
                  refine wpAnyH_ready (rs := [9]) (by kernel_rfl) (by simp) ?_
                  refine AllReadyH.cons (o := ⟨some 137, _, _, _, _, _⟩) rfl (fun K hK => ?_) AllReadyH.nil
                  go_simp
                  obtain ⟨x23, hx23⟩ : ∃ x23, x23 = x22.alloc (.cells #[] 5) := ⟨_, rfl⟩
                  obtain ⟨e9, he9⟩ : ∃ e9, e9 = x22.heap.size := ⟨_, rfl⟩
                  have hfr : Fr NoBlk x22 x23 := by rw [hx23]; exact (Fr.refl _ _).alloc _
                  have HFx23 : Hid (Fr NoBlk wc x23) := HFx22.out.trans hfr
                  have HOx23 : Hid (x23.ownsRow wc.heap.size 76 2 (.slice A6 Rk1.ers.length c6) Rk1.ers.length (ersc Rk1.ers)) := own_fr HOx22.out hfr (fun _ _ h => h)
                  have HDx23 : Hid (x23.ownsRow wc.heap.size 5 1 (.slice (some ⟨e9, 0, none⟩) 0 0) 0 []) := by show World.ownsRow _ _ _ _ _ _ _; rw [hx23, he9]; exact own_base (World.ownsRow_made x22 #[] 0 (Nat.le_refl _) (by decide) rfl) HFx22.out.size
                  rw [← hx23, ← he9]
                  clear hx23 hfr he9
                  clear hHeld
                  refine hK.out _ _ ?_ (fun hHeld => ?_)
                  · exact HFx23.out.mono fun _ _ h => h.elim
                  clear hK K
                  try simp only [Act.put, List.setIfInBounds_toArray, List.set_cons_zero, List.set_cons_succ]
                rotate_left 1
                focus
                  go_simp
                  obtain ⟨x22, hx22⟩ : ∃ x22, x22 = x21.alloc (.cells #[] 5) := ⟨_, rfl⟩
                  obtain ⟨e9, he9⟩ : ∃ e9, e9 = x21.heap.size := ⟨_, rfl⟩
                  have hfr : Fr NoBlk x21 x22 := by rw [hx22]; exact (Fr.refl _ _).alloc _
                  have HFx22 : Hid (Fr NoBlk wc x22) := HFx21.out.trans hfr
                  have HOx22 : Hid (x22.ownsRow wc.heap.size 76 2 (.slice (some ⟨e1, 0, none⟩) 0 0) 0 []) := own_fr HOx21.out hfr (fun _ _ h => h)
                  have HDx22 : Hid (x22.ownsRow wc.heap.size 5 1 (.slice (some ⟨e9, 0, none⟩) 0 0) 0 []) := by show World.ownsRow _ _ _ _ _ _ _; rw [hx22, he9]; exact own_base (World.ownsRow_made x21 #[] 0 (Nat.le_refl _) (by decide) rfl) HFx21.out.size
                  rw [← hx22, ← he9]
                  clear hx22 hfr he9
                  clear hHeld
                  refine hK.out _ _ ?_ (fun hHeld => ?_)
                  · exact HFx22.out.mono fun _ _ h => h.elim
                  clear hK K
                  try simp only [Act.put, List.setIfInBounds_toArray, List.set_cons_zero, List.set_cons_succ]
                  refine wpAnyH_ready (rs := [6]) (by kernel_rfl) (by simp) ?_
                  refine AllReadyH.cons (o := ⟨some 134, _, _, _, _, _⟩) rfl (fun K hK => ?_) AllReadyH.nil
                  refine step_appN rfl _ _ 46 rfl wc.heap.size 76 i0 _ 2 32 Try.underlying46 hi hz0 hz1 hz2 rfl (by decide) (.slice (some ⟨e1, 0, none⟩) 0 0) 0 [] rfl HOx22.out Rk1.ae Rk1.ce Rk1.ers.length (ersc Rk1.ers) rfl (ersc_len Rk1.ers) ((HRt.out.nofr HFx22.out).ear.rd) (ersc_one Rk1.ers) HRt.out.earc.2.2 ?q1 ?q2 HFx22.out.size ?_
                  case q1 => have := HE1.out.1; unfold maxLen; omega
                  case q2 => have := HE1.out.1; omega
                  intro v6 x23 ho6 hg6 hb6
                  simp only [Nat.zero_add, List.nil_append] at ho6
                  obtain ⟨A6, c6, rfl, _, _⟩ := own_form ho6
                  have HOx23 : Hid (x23.ownsRow wc.heap.size 76 2 (.slice A6 Rk1.ers.length c6) Rk1.ers.length (ersc Rk1.ers)) := ho6
                  have HFx23 : Hid (Fr NoBlk wc x23) := HFx22.out.grown hg6 (fun k hk hlt => by have := (own_blk HOx22.out hk).1; omega)
                  have HDx23 : Hid (x23.ownsRow wc.heap.size 5 1 (.slice (some ⟨e9, 0, none⟩) 0 0) 0 []) := own_fr HDx22.out (Fr.ofGrown hg6) fun k hk e => own_ne HOx22.out HDx22.out (by decide) hk e.symm
                  try dsimp only
                  clear ho6 hg6 hb6
                  clear hHeld
                  refine hK.out _ _ ?_ (fun hHeld => ?_)
                  · exact HFx23.out.mono fun _ _ h => h.elim
                  clear hK K
                  try simp only [Act.put, List.setIfInBounds_toArray, List.set_cons_zero, List.set_cons_succ]
              rotate_left 2
              focus
                go_simp
                obtain ⟨x22, hx22⟩ : ∃ x22, x22 = x21.alloc (.cells #[] 5) := ⟨_, rfl⟩
                obtain ⟨e9, he9⟩ : ∃ e9, e9 = x21.heap.size := ⟨_, rfl⟩
                have hfr : Fr NoBlk x21 x22 := by rw [hx22]; exact (Fr.refl _ _).alloc _
                have HFx22 : Hid (Fr NoBlk wc x22) := HFx21.out.trans hfr
                have HOx22 : Hid (x22.ownsRow wc.heap.size 76 2 (.slice (some ⟨e1, 0, none⟩) 0 0) 0 []) := own_fr HOx21.out hfr (fun _ _ h => h)
                have HDx22 : Hid (x22.ownsRow wc.heap.size 5 1 (.slice (some ⟨e9, 0, none⟩) 0 0) 0 []) := by show World.ownsRow _ _ _ _ _ _ _; rw [hx22, he9]; exact own_base (World.ownsRow_made x21 #[] 0 (Nat.le_refl _) (by decide) rfl) HFx21.out.size
                rw [← hx22, ← he9]
                clear hx22 hfr he9
                clear hHeld
                refine hK.out _ _ ?_ (fun hHeld => ?_)
                · exact HFx22.out.mono fun _ _ h => h.elim
                clear hK K
                try simp only [Act.put, List.setIfInBounds_toArray, List.set_cons_zero, List.set_cons_succ]
                refine wpAnyH_ready (rs := [5]) (by kernel_rfl) (by simp) ?_
                refine AllReadyH.cons (o := ⟨some 133, _, _, _, _, _⟩) rfl (fun K hK => ?_) AllReadyH.nil
                obtain ⟨_, _, _, _, _, oN⟩ := (HRt.out.nofr HFx22.out).cells
                go_simp
                clear oN
                clear hHeld
                refine hK.out _ _ ?_ (fun hHeld => ?_)
                · exact HFx22.out.mono fun _ _ h => h.elim
                clear hK K
                try simp only [Act.put, List.setIfInBounds_toArray, List.set_cons_zero, List.set_cons_succ]
                refine wpAnyH_ready (rs := [6]) (by kernel_rfl) (by simp) ?_
                refine AllReadyH.cons (o := ⟨some 134, _, _, _, _, _⟩) rfl (fun K hK => ?_) AllReadyH.nil
                refine step_appN rfl _ _ 46 rfl wc.heap.size 76 i0 _ 2 32 Try.underlying46 hi hz0 hz1 hz2 rfl (by decide) (.slice (some ⟨e1, 0, none⟩) 0 0) 0 [] rfl HOx22.out Rk1.ae Rk1.ce Rk1.ers.length (ersc Rk1.ers) rfl (ersc_len Rk1.ers) ((HRt.out.nofr HFx22.out).ear.rd) (ersc_one Rk1.ers) HRt.out.earc.2.2 ?q1 ?q2 HFx22.out.size ?_
                case q1 => have := HE1.out.1; unfold maxLen; omega
                case q2 => have := HE1.out.1; omega
                intro v6 x23 ho6 hg6 hb6
                simp only [Nat.zero_add, List.nil_append] at ho6
                obtain ⟨A6, c6, rfl, _, _⟩ := own_form ho6
                have HOx23 : Hid (x23.ownsRow wc.heap.size 76 2 (.slice A6 Rk1.ers.length c6) Rk1.ers.length (ersc Rk1.ers)) := ho6
                have HFx23 : Hid (Fr NoBlk wc x23) := HFx22.out.grown hg6 (fun k hk hlt => by have := (own_blk HOx22.out hk).1; omega)
                have HDx23 : Hid (x23.ownsRow wc.heap.size 5 1 (.slice (some ⟨e9, 0, none⟩) 0 0) 0 []) := own_fr HDx22.out (Fr.ofGrown hg6) fun k hk e => own_ne HOx22.out HDx22.out (by decide) hk e.symm
                try dsimp only
                clear ho6 hg6 hb6
                clear hHeld
                refine hK.out _ _ ?_ (fun hHeld => ?_)
                · exact HFx23.out.mono fun _ _ h => h.elim
                clear hK K
                try simp only [Act.put, List.setIfInBounds_toArray, List.set_cons_zero, List.set_cons_succ]
            rotate_left 3
            focus
              obtain ⟨_, _, _, _, _, oN⟩ := (HRt.out.nofr HFx20.out).cells
              go_simp
              clear oN
              clear hHeld
              refine hK.out _ _ ?_ (fun hHeld => ?_)
              · exact HFx20.out.mono fun _ _ h => h.elim
              clear hK K
              try simp only [Act.put, List.setIfInBounds_toArray, List.set_cons_zero, List.set_cons_succ]
              refine wpAnyH_ready (rs := [1, 9]) (by kernel_rfl) (by simp) ?_
              refine AllReadyH.cons (o := ⟨some 129, _, _, _, _, _⟩) rfl (fun K hK => ?_) (AllReadyH.cons (o := ⟨some 137, _, _, _, _, _⟩) rfl (fun K hK => ?_) AllReadyH.nil)
              focus
                go_simp
                obtain ⟨x21, hx21⟩ : ∃ x21, x21 = x20.alloc (.cells #[] 76) := ⟨_, rfl⟩
                obtain ⟨e1, he1⟩ : ∃ e1, e1 = x20.heap.size := ⟨_, rfl⟩
                have hfr : Fr NoBlk x20 x21 := by rw [hx21]; exact (Fr.refl _ _).alloc _
                have HFx21 : Hid (Fr NoBlk wc x21) := HFx20.out.trans hfr
                have HOx21 : Hid (x21.ownsRow wc.heap.size 76 2 (.slice (some ⟨e1, 0, none⟩) 0 0) 0 []) := by show World.ownsRow _ _ _ _ _ _ _; rw [hx21, he1]; exact own_base (World.ownsRow_made x20 #[] 0 (Nat.le_refl _) (by decide) rfl) HFx20.out.size
                rw [← hx21, ← he1]
                clear hx21 hfr he1
                clear hHeld
                refine hK.out _ _ ?_ (fun hHeld => ?_)
                · exact HFx21.out.mono fun _ _ h => h.elim
                clear hK K
                try simp only [Act.put, List.setIfInBounds_toArray, List.set_cons_zero, List.set_cons_succ]
                refine wpAnyH_ready (rs := [6, 9]) (by kernel_rfl) (by simp) ?_
                refine AllReadyH.cons (o := ⟨some 134, _, _, _, _, _⟩) rfl (fun K hK => ?_) (AllReadyH.cons (o := ⟨some 137, _, _, _, _, _⟩) rfl (fun K hK => ?_) AllReadyH.nil)
                focus
                  refine step_appN rfl _ _ 46 rfl wc.heap.size 76 i0 _ 2 32 Try.underlying46 hi hz0 hz1 hz2 rfl (by decide) (.slice (some ⟨e1, 0, none⟩) 0 0) 0 [] rfl HOx21.out Rk1.ae Rk1.ce Rk1.ers.length (ersc Rk1.ers) rfl (ersc_len Rk1.ers) ((HRt.out.nofr HFx21.out).ear.rd) (ersc_one Rk1.ers) HRt.out.earc.2.2 ?q1 ?q2 HFx21.out.size ?_
                  case q1 => have := HE1.out.1; unfold maxLen; omega
                  case q2 => have := HE1.out.1; omega
                  intro v6 x22 ho6 hg6 hb6
                  simp only [Nat.zero_add, List.nil_append] at ho6
                  obtain ⟨A6, c6, rfl, _, _⟩ := own_form ho6
                  have HOx22 : Hid (x22.ownsRow wc.heap.size 76 2 (.slice A6 Rk1.ers.length c6) Rk1.ers.length (ersc Rk1.ers)) := ho6
                  have HFx22 : Hid (Fr NoBlk wc x22) := HFx21.out.grown hg6 (fun k hk hlt => by have := (own_blk HOx21.out hk).1; omega)
                  try dsimp only
                  clear ho6 hg6 hb6
                  clear hHeld
                  refine hK.out _ _ ?_ (fun hHeld => ?_)
                  · exact HFx22.out.mono fun _ _ h => h.elim
                  clear hK K
                  try simp only [Act.put, List.setIfInBounds_toArray, List.set_cons_zero, List.set_cons_succ]
                  refine wpAnyH_ready (rs := [9]) (by kernel_rfl) (by simp) ?_
                  refine AllReadyH.cons (o := ⟨some 137, _, _, _, _, _⟩) rfl (fun K hK => ?_) AllReadyH.nil
                  go_simp
                  obtain ⟨x23, hx23⟩ : ∃ x23, x23 = x22.alloc (.cells #[] 5) := ⟨_, rfl⟩
                  obtain ⟨e9, he9⟩ : ∃ e9, e9 = x22.heap.size := ⟨_, rfl⟩
                  have hfr : Fr NoBlk x22 x23 := by rw [hx23]; exact (Fr.refl _ _).alloc _
                  have HFx23 : Hid (Fr NoBlk wc x23) := HFx22.out.trans hfr
                  have HOx23 : Hid (x23.ownsRow wc.heap.size 76 2 (.slice A6 Rk1.ers.length c6) Rk1.ers.length (ersc Rk1.ers)) := own_fr HOx22.out hfr (fun _ _ h => h)
                  have HDx23 : Hid (x23.ownsRow wc.heap.size 5 1 (.slice (some ⟨e9, 0, none⟩) 0 0) 0 []) := by show World.ownsRow _ _ _ _ _ _ _; rw [hx23, he9]; exact own_base (World.ownsRow_made x22 #[] 0 (Nat.le_refl _) (by decide) rfl) HFx22.out.size
                  rw [← hx23, ← he9]
                  clear hx23 hfr he9
                  clear hHeld
                  refine hK.out _ _ ?_ (fun hHeld => ?_)
                  · exact HFx23.out.mono fun _ _ h => h.elim
                  clear hK K
                  try simp only [Act.put, List.setIfInBounds_toArray, List.set_cons_zero, List.set_cons_succ]
                rotate_left 1
                focus
                  go_simp
                  obtain ⟨x22, hx22⟩ : ∃ x22, x22 = x21.alloc (.cells #[] 5) := ⟨_, rfl⟩
                  obtain ⟨e9, he9⟩ : ∃ e9, e9 = x21.heap.size := ⟨_, rfl⟩
                  have hfr : Fr NoBlk x21 x22 := by rw [hx22]; exact (Fr.refl _ _).alloc _
                  have HFx22 : Hid (Fr NoBlk wc x22) := HFx21.out.trans hfr
                  have HOx22 : Hid (x22.ownsRow wc.heap.size 76 2 (.slice (some ⟨e1, 0, none⟩) 0 0) 0 []) := own_fr HOx21.out hfr (fun _ _ h => h)
                  have HDx22 : Hid (x22.ownsRow wc.heap.size 5 1 (.slice (some ⟨e9, 0, none⟩) 0 0) 0 []) := by show World.ownsRow _ _ _ _ _ _ _; rw [hx22, he9]; exact own_base (World.ownsRow_made x21 #[] 0 (Nat.le_refl _) (by decide) rfl) HFx21.out.size
                  rw [← hx22, ← he9]
                  clear hx22 hfr he9
                  clear hHeld
                  refine hK.out _ _ ?_ (fun hHeld => ?_)
                  · exact HFx22.out.mono fun _ _ h => h.elim
                  clear hK K
                  try simp only [Act.put, List.setIfInBounds_toArray, List.set_cons_zero, List.set_cons_succ]
                  refine wpAnyH_ready (rs := [6]) (by kernel_rfl) (by simp) ?_
                  refine AllReadyH.cons (o := ⟨some 134, _, _, _, _, _⟩) rfl (fun K hK => ?_) AllReadyH.nil
                  refine step_appN rfl _ _ 46 rfl wc.heap.size 76 i0 _ 2 32 Try.underlying46 hi hz0 hz1 hz2 rfl (by decide) (.slice (some ⟨e1, 0, none⟩) 0 0) 0 [] rfl HOx22.out Rk1.ae Rk1.ce Rk1.ers.length (ersc Rk1.ers) rfl (ersc_len Rk1.ers) ((HRt.out.nofr HFx22.out).ear.rd) (ersc_one Rk1.ers) HRt.out.earc.2.2 ?q1 ?q2 HFx22.out.size ?_
                  case q1 => have := HE1.out.1; unfold maxLen; omega
                  case q2 => have := HE1.out.1; omega
                  intro v6 x23 ho6 hg6 hb6
                  simp only [Nat.zero_add, List.nil_append] at ho6
                  obtain ⟨A6, c6, rfl, _, _⟩ := own_form ho6
                  have HOx23 : Hid (x23.ownsRow wc.heap.size 76 2 (.slice A6 Rk1.ers.length c6) Rk1.ers.length (ersc Rk1.ers)) := ho6
                  have HFx23 : Hid (Fr NoBlk wc x23) := HFx22.out.grown hg6 (fun k hk hlt => by have := (own_blk HOx22.out hk).1; omega)
                  have HDx23 : Hid (x23.ownsRow wc.heap.size 5 1 (.slice (some ⟨e9, 0, none⟩) 0 0) 0 []) := own_fr HDx22.out (Fr.ofGrown hg6) fun k hk e => own_ne HOx22.out HDx22.out (by decide) hk e.symm
                  try dsimp only
                  clear ho6 hg6 hb6
                  clear hHeld
                  refine hK.out _ _ ?_ (fun hHeld => ?_)
                  · exact HFx23.out.mono fun _ _ h => h.elim
                  clear hK K
                  try simp only [Act.put, List.setIfInBounds_toArray, List.set_cons_zero, List.set_cons_succ]
              rotate_left 2
              focus
                go_simp
                obtain ⟨x21, hx21⟩ : ∃ x21, x21 = x20.alloc (.cells #[] 5) := ⟨_, rfl⟩
                obtain ⟨e9, he9⟩ : ∃ e9, e9 = x20.heap.size := ⟨_, rfl⟩
                have hfr : Fr NoBlk x20 x21 := by rw [hx21]; exact (Fr.refl _ _).alloc _
                have HFx21 : Hid (Fr NoBlk wc x21) := HFx20.out.trans hfr
                have HDx21 : Hid (x21.ownsRow wc.heap.size 5 1 (.slice (some ⟨e9, 0, none⟩) 0 0) 0 []) := by show World.ownsRow _ _ _ _ _ _ _; rw [hx21, he9]; exact own_base (World.ownsRow_made x20 #[] 0 (Nat.le_refl _) (by decide) rfl) HFx20.out.size
                rw [← hx21, ← he9]
                clear hx21 hfr he9
                clear hHeld
                refine hK.out _ _ ?_ (fun hHeld => ?_)
                · exact HFx21.out.mono fun _ _ h => h.elim
                clear hK K
                try simp only [Act.put, List.setIfInBounds_toArray, List.set_cons_zero, List.set_cons_succ]
                refine wpAnyH_ready (rs := [1]) (by kernel_rfl) (by simp) ?_
                refine AllReadyH.cons (o := ⟨some 129, _, _, _, _, _⟩) rfl (fun K hK => ?_) AllReadyH.nil
                go_simp
                obtain ⟨x22, hx22⟩ : ∃ x22, x22 = x21.alloc (.cells #[] 76) := ⟨_, rfl⟩
                obtain ⟨e1, he1⟩ : ∃ e1, e1 = x21.heap.size := ⟨_, rfl⟩
                have hfr : Fr NoBlk x21 x22 := by rw [hx22]; exact (Fr.refl _ _).alloc _
                have HFx22 : Hid (Fr NoBlk wc x22) := HFx21.out.trans hfr
                have HOx22 : Hid (x22.ownsRow wc.heap.size 76 2 (.slice (some ⟨e1, 0, none⟩) 0 0) 0 []) := by show World.ownsRow _ _ _ _ _ _ _; rw [hx22, he1]; exact own_base (World.ownsRow_made x21 #[] 0 (Nat.le_refl _) (by decide) rfl) HFx21.out.size
                have HDx22 : Hid (x22.ownsRow wc.heap.size 5 1 (.slice (some ⟨e9, 0, none⟩) 0 0) 0 []) := own_fr HDx21.out hfr (fun _ _ h => h)
                rw [← hx22, ← he1]
                clear hx22 hfr he1
                clear hHeld
                refine hK.out _ _ ?_ (fun hHeld => ?_)
                · exact HFx22.out.mono fun _ _ h => h.elim
                clear hK K
                try simp only [Act.put, List.setIfInBounds_toArray, List.set_cons_zero, List.set_cons_succ]
                refine wpAnyH_ready (rs := [6]) (by kernel_rfl) (by simp) ?_
                refine AllReadyH.cons (o := ⟨some 134, _, _, _, _, _⟩) rfl (fun K hK => ?_) AllReadyH.nil
                refine step_appN rfl _ _ 46 rfl wc.heap.size 76 i0 _ 2 32 Try.underlying46 hi hz0 hz1 hz2 rfl (by decide) (.slice (some ⟨e1, 0, none⟩) 0 0) 0 [] rfl HOx22.out Rk1.ae Rk1.ce Rk1.ers.length (ersc Rk1.ers) rfl (ersc_len Rk1.ers) ((HRt.out.nofr HFx22.out).ear.rd) (ersc_one Rk1.ers) HRt.out.earc.2.2 ?q1 ?q2 HFx22.out.size ?_
                case q1 => have := HE1.out.1; unfold maxLen; omega
                case q2 => have := HE1.out.1; omega
                intro v6 x23 ho6 hg6 hb6
                simp only [Nat.zero_add, List.nil_append] at ho6
                obtain ⟨A6, c6, rfl, _, _⟩ := own_form ho6
                have HOx23 : Hid (x23.ownsRow wc.heap.size 76 2 (.slice A6 Rk1.ers.length c6) Rk1.ers.length (ersc Rk1.ers)) := ho6
                have HFx23 : Hid (Fr NoBlk wc x23) := HFx22.out.grown hg6 (fun k hk hlt => by have := (own_blk HOx22.out hk).1; omega)
                have HDx23 : Hid (x23.ownsRow wc.heap.size 5 1 (.slice (some ⟨e9, 0, none⟩) 0 0) 0 []) := own_fr HDx22.out (Fr.ofGrown hg6) fun k hk e => own_ne HOx22.out HDx22.out (by decide) hk e.symm
                try dsimp only
                clear ho6 hg6 hb6
                clear hHeld
                refine hK.out _ _ ?_ (fun hHeld => ?_)
                · exact HFx23.out.mono fun _ _ h => h.elim
                clear hK K
                try simp only [Act.put, List.setIfInBounds_toArray, List.set_cons_zero, List.set_cons_succ]
            rotate_left 3
            focus
              go_simp
              obtain ⟨x21, hx21⟩ : ∃ x21, x21 = x20.alloc (.cells #[] 5) := ⟨_, rfl⟩
              obtain ⟨e9, he9⟩ : ∃ e9, e9 = x20.heap.size := ⟨_, rfl⟩
              have hfr : Fr NoBlk x20 x21 := by rw [hx21]; exact (Fr.refl _ _).alloc _
              have HFx21 : Hid (Fr NoBlk wc x21) := HFx20.out.trans hfr
              have HDx21 : Hid (x21.ownsRow wc.heap.size 5 1 (.slice (some ⟨e9, 0, none⟩) 0 0) 0 []) := by show World.ownsRow _ _ _ _ _ _ _; rw [hx21, he9]; exact own_base (World.ownsRow_made x20 #[] 0 (Nat.le_refl _) (by decide) rfl) HFx20.out.size
              rw [← hx21, ← he9]
              clear hx21 hfr he9
              clear hHeld
              refine hK.out _ _ ?_ (fun hHeld => ?_)
              · exact HFx21.out.mono fun _ _ h => h.elim
              clear hK K
              try simp only [Act.put, List.setIfInBounds_toArray, List.set_cons_zero, List.set_cons_succ]
              refine wpAnyH_ready (rs := [1, 5]) (by kernel_rfl) (by simp) ?_
              refine AllReadyH.cons (o := ⟨some 129, _, _, _, _, _⟩) rfl (fun K hK => ?_) (AllReadyH.cons (o := ⟨some 133, _, _, _, _, _⟩) rfl (fun K hK => ?_) AllReadyH.nil)
              focus
                go_simp
                obtain ⟨x22, hx22⟩ : ∃ x22, x22 = x21.alloc (.cells #[] 76) := ⟨_, rfl⟩
                obtain ⟨e1, he1⟩ : ∃ e1, e1 = x21.heap.size := ⟨_, rfl⟩
                have hfr : Fr NoBlk x21 x22 := by rw [hx22]; exact (Fr.refl _ _).alloc _
                have HFx22 : Hid (Fr NoBlk wc x22) := HFx21.out.trans hfr
                have HOx22 : Hid (x22.ownsRow wc.heap.size 76 2 (.slice (some ⟨e1, 0, none⟩) 0 0) 0 []) := by show World.ownsRow _ _ _ _ _ _ _; rw [hx22, he1]; exact own_base (World.ownsRow_made x21 #[] 0 (Nat.le_refl _) (by decide) rfl) HFx21.out.size
                have HDx22 : Hid (x22.ownsRow wc.heap.size 5 1 (.slice (some ⟨e9, 0, none⟩) 0 0) 0 []) := own_fr HDx21.out hfr (fun _ _ h => h)
                rw [← hx22, ← he1]
                clear hx22 hfr he1
                clear hHeld
                refine hK.out _ _ ?_ (fun hHeld => ?_)
                · exact HFx22.out.mono fun _ _ h => h.elim
                clear hK K
                try simp only [Act.put, List.setIfInBounds_toArray, List.set_cons_zero, List.set_cons_succ]
                refine wpAnyH_ready (rs := [5]) (by kernel_rfl) (by simp) ?_
                refine AllReadyH.cons (o := ⟨some 133, _, _, _, _, _⟩) rfl (fun K hK => ?_) AllReadyH.nil
                obtain ⟨_, _, _, _, _, oN⟩ := (HRt.out.nofr HFx22.out).cells
                go_simp
                clear oN
                clear hHeld
                refine hK.out _ _ ?_ (fun hHeld => ?_)
                · exact HFx22.out.mono fun _ _ h => h.elim
                clear hK K
                try simp only [Act.put, List.setIfInBounds_toArray, List.set_cons_zero, List.set_cons_succ]
                refine wpAnyH_ready (rs := [6]) (by kernel_rfl) (by simp) ?_
                refine AllReadyH.cons (o := ⟨some 134, _, _, _, _, _⟩) rfl (fun K hK => ?_) AllReadyH.nil
                refine step_appN rfl _ _ 46 rfl wc.heap.size 76 i0 _ 2 32 Try.underlying46 hi hz0 hz1 hz2 rfl (by decide) (.slice (some ⟨e1, 0, none⟩) 0 0) 0 [] rfl HOx22.out Rk1.ae Rk1.ce Rk1.ers.length (ersc Rk1.ers) rfl (ersc_len Rk1.ers) ((HRt.out.nofr HFx22.out).ear.rd) (ersc_one Rk1.ers) HRt.out.earc.2.2 ?q1 ?q2 HFx22.out.size ?_
                case q1 => have := HE1.out.1; unfold maxLen; omega
                case q2 => have := HE1.out.1; omega
                intro v6 x23 ho6 hg6 hb6
                simp only [Nat.zero_add, List.nil_append] at ho6
                obtain ⟨A6, c6, rfl, _, _⟩ := own_form ho6
                have HOx23 : Hid (x23.ownsRow wc.heap.size 76 2 (.slice A6 Rk1.ers.length c6) Rk1.ers.length (ersc Rk1.ers)) := ho6
                have HFx23 : Hid (Fr NoBlk wc x23) := HFx22.out.grown hg6 (fun k hk hlt => by have := (own_blk HOx22.out hk).1; omega)
                have HDx23 : Hid (x23.ownsRow wc.heap.size 5 1 (.slice (some ⟨e9, 0, none⟩) 0 0) 0 []) := own_fr HDx22.out (Fr.ofGrown hg6) fun k hk e => own_ne HOx22.out HDx22.out (by decide) hk e.symm
                try dsimp only
                clear ho6 hg6 hb6
                clear hHeld
                refine hK.out _ _ ?_ (fun hHeld => ?_)
                · exact HFx23.out.mono fun _ _ h => h.elim
                clear hK K
                try simp only [Act.put, List.setIfInBounds_toArray, List.set_cons_zero, List.set_cons_succ]
              rotate_left 1
              focus
                obtain ⟨_, _, _, _, _, oN⟩ := (HRt.out.nofr HFx21.out).cells
                go_simp
                clear oN
                clear hHeld
                refine hK.out _ _ ?_ (fun hHeld => ?_)
                · exact HFx21.out.mono fun _ _ h => h.elim
                clear hK K
                try simp only [Act.put, List.setIfInBounds_toArray, List.set_cons_zero, List.set_cons_succ]
                refine wpAnyH_ready (rs := [1]) (by kernel_rfl) (by simp) ?_
                refine AllReadyH.cons (o := ⟨some 129, _, _, _, _, _⟩) rfl (fun K hK => ?_) AllReadyH.nil
                go_simp
                obtain ⟨x22, hx22⟩ : ∃ x22, x22 = x21.alloc (.cells #[] 76) := ⟨_, rfl⟩
                obtain ⟨e1, he1⟩ : ∃ e1, e1 = x21.heap.size := ⟨_, rfl⟩
                have hfr : Fr NoBlk x21 x22 := by rw [hx22]; exact (Fr.refl _ _).alloc _
                have HFx22 : Hid (Fr NoBlk wc x22) := HFx21.out.trans hfr
                have HOx22 : Hid (x22.ownsRow wc.heap.size 76 2 (.slice (some ⟨e1, 0, none⟩) 0 0) 0 []) := by show World.ownsRow _ _ _ _ _ _ _; rw [hx22, he1]; exact own_base (World.ownsRow_made x21 #[] 0 (Nat.le_refl _) (by decide) rfl) HFx21.out.size
                have HDx22 : Hid (x22.ownsRow wc.heap.size 5 1 (.slice (some ⟨e9, 0, none⟩) 0 0) 0 []) := own_fr HDx21.out hfr (fun _ _ h => h)
                rw [← hx22, ← he1]
                clear hx22 hfr he1
                clear hHeld
                refine hK.out _ _ ?_ (fun hHeld => ?_)
                · exact HFx22.out.mono fun _ _ h => h.elim
                clear hK K
                try simp only [Act.put, List.setIfInBounds_toArray, List.set_cons_zero, List.set_cons_succ]
                refine wpAnyH_ready (rs := [6]) (by kernel_rfl) (by simp) ?_
                refine AllReadyH.cons (o := ⟨some 134, _, _, _, _, _⟩) rfl (fun K hK => ?_) AllReadyH.nil
                refine step_appN rfl _ _ 46 rfl wc.heap.size 76 i0 _ 2 32 Try.underlying46 hi hz0 hz1 hz2 rfl (by decide) (.slice (some ⟨e1, 0, none⟩) 0 0) 0 [] rfl HOx22.out Rk1.ae Rk1.ce Rk1.ers.length (ersc Rk1.ers) rfl (ersc_len Rk1.ers) ((HRt.out.nofr HFx22.out).ear.rd) (ersc_one Rk1.ers) HRt.out.earc.2.2 ?q1 ?q2 HFx22.out.size ?_
                case q1 => have := HE1.out.1; unfold maxLen; omega
                case q2 => have := HE1.out.1; omega
                intro v6 x23 ho6 hg6 hb6
                simp only [Nat.zero_add, List.nil_append] at ho6
                obtain ⟨A6, c6, rfl, _, _⟩ := own_form ho6
                have HOx23 : Hid (x23.ownsRow wc.heap.size 76 2 (.slice A6 Rk1.ers.length c6) Rk1.ers.length (ersc Rk1.ers)) := ho6
                have HFx23 : Hid (Fr NoBlk wc x23) := HFx22.out.grown hg6 (fun k hk hlt => by have := (own_blk HOx22.out hk).1; omega)
                have HDx23 : Hid (x23.ownsRow wc.heap.size 5 1 (.slice (some ⟨e9, 0, none⟩) 0 0) 0 []) := own_fr HDx22.out (Fr.ofGrown hg6) fun k hk e => own_ne HOx22.out HDx22.out (by decide) hk e.symm
                try dsimp only
                clear ho6 hg6 hb6
                clear hHeld
                refine hK.out _ _ ?_ (fun hHeld => ?_)
                · exact HFx23.out.mono fun _ _ h => h.elim
                clear hK K
                try simp only [Act.put, List.setIfInBounds_toArray, List.set_cons_zero, List.set_cons_succ]
            all_goals
              refine wpAnyH_ready (rs := [12]) (by kernel_rfl) (by simp) ?_
              refine AllReadyH.cons (o := ⟨some 140, _, _, _, _, _⟩) rfl (fun K hK => ?_) AllReadyH.nil
              refine step_appN rfl _ _ 30 rfl wc.heap.size 5 j0 _ 1 1 Try.underlying30 hj hy0 hy1 hy2 rfl (by decide) (.slice (some ⟨e9, 0, none⟩) 0 0) 0 [] rfl HDx23.out P.d.1 P.d.2.1 P.d.2.2.length (cb P.d.2.2) rfl (by rw [cb_length, Nat.mul_one]) (HPW.out.nofr HFx23.out) (cb_one _) HPD.out.2.1 ?q1 ?q2 HFx23.out.size ?_
              case q1 => have := HPD.out.2.2; unfold maxLen; omega
              case q2 => have := HPD.out.2.2; omega
              intro v12 x24 ho12 hg12 hb12
              simp only [Nat.zero_add, List.nil_append] at ho12
              obtain ⟨A12, c12, rfl, _, _⟩ := own_form ho12
              have HDx24 : Hid (x24.ownsRow wc.heap.size 5 1 (.slice A12 P.d.2.2.length c12) P.d.2.2.length (cb P.d.2.2)) := ho12
              have HFx24 : Hid (Fr NoBlk wc x24) := HFx23.out.grown hg12 (fun k hk hlt => by have := (own_blk HDx23.out hk).1; omega)
              have HOx24 : Hid (x24.ownsRow wc.heap.size 76 2 (.slice A6 Rk1.ers.length c6) Rk1.ers.length (ersc Rk1.ers)) := own_fr HOx23.out (Fr.ofGrown hg12) fun k hk e => own_ne HDx23.out HOx23.out (by decide) hk e.symm
              try dsimp only
              clear ho12 hg12 hb12
              clear hHeld
              refine hK.out _ _ ?_ (fun hHeld => ?_)
              · exact HFx24.out.mono fun _ _ h => h.elim
              clear hK K
              try simp only [Act.put, List.setIfInBounds_toArray, List.set_cons_zero, List.set_cons_succ]
              refine wpAnyH_take (i := 13) (oi := ⟨some 141, _, _, _, _, _⟩) (v := ?_) rfl (by kernel_rfl) (by kernel_rfl) (by kernel_rfl) (fun _ _ _ h => h) (Or.inl ⟨by rfl, ?_⟩) (by assumption) ?_
              rotate_left 1
              · (intro w hSw; (try dsimp only at hSw); go_simp) <;> (with_reducible rfl)
              try simp only [Act.put, List.setIfInBounds_toArray, List.set_cons_zero, List.set_cons_succ]
              refine wpAnyH_ready (rs := [14]) (by kernel_rfl) (by simp) ?_
              refine AllReadyH.cons (o := ⟨some 142, _, _, _, _, _⟩) rfl (fun K hK => ?_) AllReadyH.nil
              go_simp
              obtain ⟨x25, hx25⟩ : ∃ x25, x25 = x24.alloc (.cells #[.int .u64 (P.sq : Int), .slice A12 P.d.2.2.length c12] 76) := ⟨_, rfl⟩
              obtain ⟨e14, he14⟩ : ∃ e14, e14 = x24.heap.size := ⟨_, rfl⟩
              have hfr : Fr NoBlk x24 x25 := by rw [hx25]; exact (Fr.refl _ _).alloc _
              have HFx25 : Hid (Fr NoBlk wc x25) := HFx24.out.trans hfr
              have HOx25 : Hid (x25.ownsRow wc.heap.size 76 2 (.slice A6 Rk1.ers.length c6) Rk1.ers.length (ersc Rk1.ers)) := own_fr HOx24.out hfr (fun _ _ h => h)
              have HDx25 : Hid (x25.ownsRow wc.heap.size 5 1 (.slice A12 P.d.2.2.length c12) P.d.2.2.length (cb P.d.2.2)) := own_fr HDx24.out hfr (fun _ _ h => h)
              have HNx25 : Hid (Rd x25 (some ⟨e14, 0, none⟩) (erc (P.sq, (A12, c12, P.d.2.2)))) := by show Rd _ _ _; rw [hx25, he14]; exact Rd.of_cells (Bk.new x24 _ #[.int .u64 (P.sq : Int), .slice A12 P.d.2.2.length c12])
              rw [← hx25, ← he14]
              clear hx25 hfr he14
              clear hHeld
              refine hK.out _ _ ?_ (fun hHeld => ?_)
              · exact HFx25.out.mono fun _ _ h => h.elim
              clear hK K
              try simp only [Act.put, List.setIfInBounds_toArray, List.set_cons_zero, List.set_cons_succ]
              refine wpAnyH_ready (rs := [15]) (by kernel_rfl) (by simp) ?_
              refine AllReadyH.cons (o := ⟨some 143, _, _, _, _, _⟩) rfl (fun K hK => ?_) AllReadyH.nil
              refine step_appN rfl _ _ 46 rfl wc.heap.size 76 i0 _ 2 32 Try.underlying46 hi hz0 hz1 hz2 rfl (by decide) (.slice A6 Rk1.ers.length c6) Rk1.ers.length (ersc Rk1.ers) rfl HOx25.out (some ⟨e14, 0, none⟩) 1 1 (erc (P.sq, (A12, c12, P.d.2.2))) rfl rfl HNx25.out (fun y hy => ersc_one [(P.sq, (A12, c12, P.d.2.2))] y (by simpa [ersc] using hy)) (fun h => by cases h) ?q1 ?q2 HFx25.out.size ?_
              case q1 => have := HE1.out.1; unfold maxLen; omega
              case q2 => have := HE1.out.1; omega
              intro v15 x26 ho15 hg15 hb15
              obtain ⟨A15, c15, rfl, _, _⟩ := own_form ho15
              have HFx26 : Hid (Fr NoBlk wc x26) := HFx25.out.grown hg15 (fun k hk hlt => by have := (own_blk HOx25.out hk).1; omega)
              have HDx26 : Hid (x26.ownsRow wc.heap.size 5 1 (.slice A12 P.d.2.2.length c12) P.d.2.2.length (cb P.d.2.2)) := own_fr HDx25.out (Fr.ofGrown hg15) fun k hk e => own_ne HOx25.out HDx25.out (by decide) hk e.symm
              have HS := Lib.hid ((HRt.out.nofr HFx26.out).put5 (M' := Plus M wc x26) (xs := Rk1.ers ++ [(P.sq, (A12, c12, P.d.2.2))]) (by rw [ersc_append]; simpa [ersc] using ho15) (by simp) (fun k hk => .inl hk) (fun k hk => .inr (own_blk ho15 hk)) (fun x hx => by
                rcases List.mem_append.1 hx with hx | hx
                · exact ((HRt.out.nofr HFx26.out).ed x hx).mono fun _ hk => .inl hk
                · rw [List.mem_singleton.1 hx]
                  exact ⟨Rdm.own HDx26.out fun k hk => .inr (own_blk HDx26.out hk), (own_lens HDx26.out).2.2, HPD.out.2.2⟩) (by have := HE1.out.1; omega) (fun e => by
                rcases e with e | e
                · exact HRt.out.mm e
                · have := HRt.out.bk.lt; omega) (fun k hk => by
                rcases hk with hk | hk
                · exact (HRt.out.nofr HFx26.out).ml k hk
                · exact hk.2))
              obtain ⟨_, _, _, _, _, oN⟩ := (HRt.out.nofr HFx26.out).cells
              have fN := HRt.out.bk.free 5
              have fN := (HRt.out.nofr HFx26.out).bk.free 5
              have hsz : x26.heap.size = (x26.setCell ⟨m, 5, none⟩ (.slice A15 (Rk1.ers.length + 1) c15)).heap.size := by simp
              try dsimp only
              clear ho15 hg15 hb15
              clear hHeld
              refine hK.out _ _ ?_ (fun hHeld => ?_)
              · exact HFx26.out.mono fun _ _ h => h.elim
              clear hK K
              try simp only [Act.put, List.setIfInBounds_toArray, List.set_cons_zero, List.set_cons_succ]
              refine wpAnyH_take (i := 16) (oi := ⟨some 144, _, _, _, _, _⟩) (v := ?_) rfl (by kernel_rfl) (by kernel_rfl) (by kernel_rfl) (fun _ _ _ h => h) (Or.inl ⟨by rfl, ?_⟩) (by assumption) ?_
              rotate_left 1
              · (intro w hSw; (try dsimp only at hSw); go_simp) <;> (with_reducible rfl)
              try simp only [Act.put, List.setIfInBounds_toArray, List.set_cons_zero, List.set_cons_succ]
              refine wpAnyH_take (i := 17) (oi := ⟨some 145, _, _, _, _, _⟩) (v := ?_) rfl (by kernel_rfl) (by kernel_rfl) (by kernel_rfl) (fun _ _ _ h => h) (Or.inl ⟨by rfl, ?_⟩) (by assumption) ?_
              rotate_left 1
              · (intro w hSw; (try dsimp only at hSw); go_simp) <;> (with_reducible rfl)
              try simp only [Act.put, List.setIfInBounds_toArray, List.set_cons_zero, List.set_cons_succ]
              refine wpAnyH_ready (rs := [18]) (by kernel_rfl) (by simp) ?_
              refine AllReadyH.cons (o := ⟨none, _, _, _, _, _⟩) rfl (fun K hK => ?_) AllReadyH.nil
              go_simp
              clear hHeld
              refine hK.out _ _ ?_ (fun hHeld => ?_)
              · exact (HFx26.out.mono fun _ _ h => h.elim).trans HS.out.2
              clear hK K
              try simp only [Act.put, List.setIfInBounds_toArray, List.set_cons_zero, List.set_cons_succ]
              refine wpAnyH_done (by kernel_rfl) ?_ _
              have HFZ := Lib.hid ((HFx26.out.mono fun _ _ h => h.elim).trans HS.out.2)
              clear hHeld fN oN
              try go_wp2_with fail
              go_meet
              exact ⟨rfl, _, _, HADD.out _ _ _ _, ⟨by show (Rk1.ers ++ _).length ≤ _; have := HE1.out.1; simp; omega, HE1.out.2⟩, (fun k hk => by
                rcases hk with hk | hk
                · exact .inl hk
                · have := HFt.out.size; exact .inr (by omega)), (fun e => by
                rcases e with e | e
                · exact HNG.out e
                · have := (own_blk HCt.out (k := gc) rfl).2; omega), HS.out.1, HFt.out.trans HFZ.out, own_fr HCt.out HFZ.out fun k hk e => by
                injection hk with hk
                subst hk
                exact HNM.out e⟩
        case rest =>
          obtain ⟨rfl, M2, R2, HADD, HE2, HM2, HGC, HR2, HF2, HC2⟩ := hcut
          clear HRt HFt HBt HCt HNG HBT
          go_wp2_with fail
          go_loopw [7] (fun t7 wr => ∃ (M3 : Nat → Prop) (R3 : Rk) (C : Option Addr) (c : Nat) (qs : List Prt), t7 = .slice C qs.length c ∧ Hid (DrV (rv R2) (qs.map (·.2.2)) (rv R3)) ∧ Hid (R3.ers.length + qs.length ≤ 1000 ∧ R3.ex ≤ R2.ex + qs.length) ∧ Hid (∀ k, M3 k → M k ∨ W.heap.size ≤ k) ∧ Hid (∀ k, (Value.slice C qs.length c).ownBlock = some k → ¬ M3 k) ∧ Hid (RkIn M3 wr m R3) ∧ Hid (Fr (fun k => k = m) W wr) ∧ Hid (wr.ownsRow W.heap.size 30 1 (.slice C qs.length c) qs.length (qs.map sl)) ∧ Hid (∀ q ∈ qs, Pm M3 wr q)) (fun _ wr => waitAt wr m)
          case atStart => exact ⟨M2, R2, some ⟨gc, 0, none⟩, 0, [], rfl, DrV.nil _, ⟨by show R2.ers.length + 0 ≤ 1000; exact HE2.out.1, by show R2.ex ≤ R2.ex + 0; omega⟩, HM2, (fun k hk => by injection hk with hk; subst hk; exact HGC.out), HR2, HF2, HC2, (fun _ h => by cases h)⟩
          case round =>
            obtain ⟨M3, R3, C, c, qs, rfl, HDR, HN3, HM3, HCN, HR3, HF3, HC3, HQ3⟩ := hrel
            obtain ⟨ai, hai⟩ : ∃ ai, ai = atI R3.ers R3.ex := ⟨_, rfl⟩
            have HAT : Hid (Calls Try.prog 30 #[.pointer (some ⟨m, 0, none⟩), .int .u64 (R3.ex : Int)] wr fun e W' => e = .returned (.int .i64 ai) ∧ wr = W') := by show Calls _ _ _ _ _; rw [hai]; exact rat_any wr M3 m R3 HR3.out R3.ex
            obtain ⟨_, _, _, c3, _, c5⟩ := HR3.out.cells
            go_wp2_with fail
            refine HAT.out.mono ?_
            rintro e w' ⟨rfl, rfl⟩
            by_cases h0 : ai < 0
            · have q1 : decide ((0 : Int) ≤ ai) = false := by simp; omega
              have q2 : ¬ (0 : Int) ≤ ai := by omega
              have HNO : Hid (∀ x ∈ (rv R3).ers, x.1 ≠ (rv R3).ex) := fun x hx => by
                obtain ⟨y, hy, rfl⟩ := List.mem_map.1 hx
                exact atI_neg.1 (hai ▸ h0) y hy
              clear h0 hai c3 c5 HAT
              have HSKwr : Hid (∀ w', Fr NoBlk wr w' → ((True ∧ True ∧ True ∧ True ∧ True) ∧ (w'.cell? ⟨m, 0, none⟩ = some (.int .u64 (R3.ep : Int)) ∧ w'.cell? ⟨m, 1, none⟩ = some (.int .u64 (R3.pe : Int)) ∧ w'.cell? ⟨m, 2, none⟩ = some (.int .u64 (R3.ba : Int)) ∧ w'.cell? ⟨m, 3, none⟩ = some (.int .u64 (R3.ex : Int)) ∧ w'.cell? ⟨m, 4, none⟩ = some (.slice R3.ao R3.outs.length R3.co) ∧ w'.cell? ⟨m, 5, none⟩ = some (.slice R3.ae R3.ers.length R3.ce)))) := fun w' hf => ⟨⟨trivial, trivial, trivial, trivial, trivial⟩, (HR3.out.nofr hf).cells⟩
              go_upto_region 23 with fail
              refine wp_region_held_drew (S := fun w' => Fr NoBlk wr w') (by kernel_rfl) (by exact (Fr.refl NoBlk wr).drew) (fun hHeld => ?_)
              obtain ⟨w6, hw6⟩ : ∃ w6, w6 = wr.drew := ⟨_, rfl⟩
              have HF6 : Hid (Fr NoBlk wr w6) := by show Fr _ _ _; rw [hw6]; exact (Fr.refl NoBlk _).drew
              rw [← hw6] at hHeld ⊢
              clear hw6
              have e4 := akN_wrap (HR3.out.nums.2.2.2)
              have e5 : ((R3.ex : Int) - 1) % 18446744073709551616 = ((akN R3.ex : Nat) : Int) := by
                have := HR3.out.nums.2.2.2
                unfold akN
                split <;> omega
              refine wpAnyH_take (i := 0) (oi := ⟨some 196, _, _, _, _, _⟩) (v := ?_) rfl (by kernel_rfl) (by kernel_rfl) (by kernel_rfl) (fun _ _ _ h => h) (Or.inl ⟨by rfl, ?_⟩) (by assumption) ?_
              rotate_left 1
              · (intro w hSw; (try dsimp only at hSw); obtain ⟨⟨p0, p1, p2, p3, p4⟩, r0, r1, r2, r3, r4, r5⟩ := HSKwr.out _ hSw; go_simp) <;> (with_reducible rfl)
              try simp only [Act.put, List.setIfInBounds_toArray, List.set_cons_zero, List.set_cons_succ]
              refine wpAnyH_take (i := 1) (oi := ⟨some 197, _, _, _, _, _⟩) (v := ?_) rfl (by kernel_rfl) (by kernel_rfl) (by kernel_rfl) (fun _ _ _ h => h) (Or.inl ⟨by rfl, ?_⟩) (by assumption) ?_
              rotate_left 1
              · (intro w hSw; (try dsimp only at hSw); obtain ⟨⟨p0, p1, p2, p3, p4⟩, r0, r1, r2, r3, r4, r5⟩ := HSKwr.out _ hSw; go_simp) <;> (with_reducible rfl)
              try simp only [Act.put, List.setIfInBounds_toArray, List.set_cons_zero, List.set_cons_succ]
              refine wpAnyH_take (i := 2) (oi := ⟨some 198, _, _, _, _, _⟩) (v := ?_) rfl (by kernel_rfl) (by kernel_rfl) (by kernel_rfl) (fun _ _ _ h => h) (Or.inl ⟨by rfl, ?_⟩) (by assumption) ?_
              rotate_left 1
              · (intro w hSw; (try dsimp only at hSw); obtain ⟨⟨p0, p1, p2, p3, p4⟩, r0, r1, r2, r3, r4, r5⟩ := HSKwr.out _ hSw; go_simp) <;> (with_reducible rfl)
              try simp only [Act.put, List.setIfInBounds_toArray, List.set_cons_zero, List.set_cons_succ]
              refine wpAnyH_take (i := 3) (oi := ⟨some 199, _, _, _, _, _⟩) (v := ?_) rfl (by kernel_rfl) (by kernel_rfl) (by kernel_rfl) (fun _ _ _ h => h) (Or.inl ⟨by rfl, ?_⟩) (by assumption) ?_
              rotate_left 1
              · (intro w hSw; (try dsimp only at hSw); obtain ⟨⟨p0, p1, p2, p3, p4⟩, r0, r1, r2, r3, r4, r5⟩ := HSKwr.out _ hSw; go_simp) <;> (with_reducible rfl)
              try simp only [Act.put, List.setIfInBounds_toArray, List.set_cons_zero, List.set_cons_succ]
              refine wpAnyH_take (i := 4) (oi := ⟨some 200, _, _, _, _, _⟩) (v := ?_) rfl (by kernel_rfl) (by kernel_rfl) (by kernel_rfl) (fun _ _ _ h => h) (Or.inl ⟨by rfl, ?_⟩) (by assumption) ?_
              rotate_left 1
              · (intro w hSw; (try dsimp only at hSw); obtain ⟨⟨p0, p1, p2, p3, p4⟩, r0, r1, r2, r3, r4, r5⟩ := HSKwr.out _ hSw; go_simp) <;> (with_reducible rfl)
              try simp only [Act.put, List.setIfInBounds_toArray, List.set_cons_zero, List.set_cons_succ]
              refine wpAnyH_take (i := 5) (oi := ⟨some 201, _, _, _, _, _⟩) (v := ?_) rfl (by kernel_rfl) (by kernel_rfl) (by kernel_rfl) (fun _ _ _ h => h) (Or.inl ⟨by rfl, ?_⟩) (by assumption) ?_
              rotate_left 1
              · (intro w hSw; (try dsimp only at hSw); obtain ⟨⟨p0, p1, p2, p3, p4⟩, r0, r1, r2, r3, r4, r5⟩ := HSKwr.out _ hSw; go_simp) <;> (with_reducible rfl)
              try simp only [Act.put, List.setIfInBounds_toArray, List.set_cons_zero, List.set_cons_succ]
              refine wpAnyH_take (i := 6) (oi := ⟨some 202, _, _, _, _, _⟩) (v := ?_) rfl (by kernel_rfl) (by kernel_rfl) (by kernel_rfl) (fun _ _ _ h => h) (Or.inl ⟨by rfl, ?_⟩) (by assumption) ?_
              rotate_left 1
              · (intro w hSw; (try dsimp only at hSw); obtain ⟨⟨p0, p1, p2, p3, p4⟩, r0, r1, r2, r3, r4, r5⟩ := HSKwr.out _ hSw; go_simp) <;> (with_reducible rfl)
              try simp only [Act.put, List.setIfInBounds_toArray, List.set_cons_zero, List.set_cons_succ]
              refine wpAnyH_take (i := 7) (oi := ⟨some 203, _, _, _, _, _⟩) (v := ?_) rfl (by kernel_rfl) (by kernel_rfl) (by kernel_rfl) (fun _ _ _ h => h) (Or.inl ⟨by rfl, ?_⟩) (by assumption) ?_
              rotate_left 1
              · (intro w hSw; (try dsimp only at hSw); obtain ⟨⟨p0, p1, p2, p3, p4⟩, r0, r1, r2, r3, r4, r5⟩ := HSKwr.out _ hSw; go_simp) <;> (with_reducible rfl)
              try simp only [Act.put, List.setIfInBounds_toArray, List.set_cons_zero, List.set_cons_succ]
              refine wpAnyH_take (i := 8) (oi := ⟨some 204, _, _, _, _, _⟩) (v := ?_) rfl (by kernel_rfl) (by kernel_rfl) (by kernel_rfl) (fun _ _ _ h => h) (Or.inl ⟨by rfl, ?_⟩) (by assumption) ?_
              rotate_left 1
              · (intro w hSw; (try dsimp only at hSw); obtain ⟨⟨p0, p1, p2, p3, p4⟩, r0, r1, r2, r3, r4, r5⟩ := HSKwr.out _ hSw; go_simp) <;> (with_reducible rfl)
              try simp only [Act.put, List.setIfInBounds_toArray, List.set_cons_zero, List.set_cons_succ]
              refine wpAnyH_take (i := 9) (oi := ⟨some 205, _, _, _, _, _⟩) (v := ?_) rfl (by kernel_rfl) (by kernel_rfl) (by kernel_rfl) (fun _ _ _ h => h) (Or.inl ⟨by rfl, ?_⟩) (by assumption) ?_
              rotate_left 1
              · (intro w hSw; (try dsimp only at hSw); obtain ⟨⟨p0, p1, p2, p3, p4⟩, r0, r1, r2, r3, r4, r5⟩ := HSKwr.out _ hSw; go_simp) <;> (with_reducible rfl)
              try simp only [Act.put, List.setIfInBounds_toArray, List.set_cons_zero, List.set_cons_succ]
              refine wpAnyH_take (i := 10) (oi := ⟨some 206, _, _, _, _, _⟩) (v := ?_) rfl (by kernel_rfl) (by kernel_rfl) (by kernel_rfl) (fun _ _ _ h => h) (Or.inl ⟨by rfl, ?_⟩) (by assumption) ?_
              rotate_left 1
              · (intro w hSw; (try dsimp only at hSw); obtain ⟨⟨p0, p1, p2, p3, p4⟩, r0, r1, r2, r3, r4, r5⟩ := HSKwr.out _ hSw; go_simp) <;> (with_reducible rfl)
              try simp only [Act.put, List.setIfInBounds_toArray, List.set_cons_zero, List.set_cons_succ]
              refine wpAnyH_take (i := 11) (oi := ⟨some 207, _, _, _, _, _⟩) (v := ?_) rfl (by kernel_rfl) (by kernel_rfl) (by kernel_rfl) (fun _ _ _ h => h) (Or.inl ⟨by rfl, ?_⟩) (by assumption) ?_
              rotate_left 1
              · (intro w hSw; (try dsimp only at hSw); obtain ⟨⟨p0, p1, p2, p3, p4⟩, r0, r1, r2, r3, r4, r5⟩ := HSKwr.out _ hSw; go_simp) <;> (with_reducible rfl)
              try simp only [Act.put, List.setIfInBounds_toArray, List.set_cons_zero, List.set_cons_succ]
              refine wpAnyH_take (i := 12) (oi := ⟨some 208, _, _, _, _, _⟩) (v := ?_) rfl (by kernel_rfl) (by kernel_rfl) (by kernel_rfl) (fun _ _ _ h => h) (Or.inl ⟨by rfl, ?_⟩) (by assumption) ?_
              rotate_left 1
              · (intro w hSw; (try dsimp only at hSw); obtain ⟨⟨p0, p1, p2, p3, p4⟩, r0, r1, r2, r3, r4, r5⟩ := HSKwr.out _ hSw; go_simp) <;> (with_reducible rfl)
              try simp only [Act.put, List.setIfInBounds_toArray, List.set_cons_zero, List.set_cons_succ]
              refine wpAnyH_take (i := 13) (oi := ⟨some 209, _, _, _, _, _⟩) (v := ?_) rfl (by kernel_rfl) (by kernel_rfl) (by kernel_rfl) (fun _ _ _ h => h) (Or.inl ⟨by rfl, ?_⟩) (by assumption) ?_
              rotate_left 1
              · (intro w hSw; (try dsimp only at hSw); obtain ⟨⟨p0, p1, p2, p3, p4⟩, r0, r1, r2, r3, r4, r5⟩ := HSKwr.out _ hSw; go_simp) <;> (with_reducible rfl)
              try simp only [Act.put, List.setIfInBounds_toArray, List.set_cons_zero, List.set_cons_succ]
              refine wpAnyH_take (i := 14) (oi := ⟨some 210, _, _, _, _, _⟩) (v := ?_) rfl (by kernel_rfl) (by kernel_rfl) (by kernel_rfl) (fun _ _ _ h => h) (Or.inl ⟨by rfl, ?_⟩) (by assumption) ?_
              rotate_left 1
              · (intro w hSw; (try dsimp only at hSw); obtain ⟨⟨p0, p1, p2, p3, p4⟩, r0, r1, r2, r3, r4, r5⟩ := HSKwr.out _ hSw; go_simp) <;> (with_reducible rfl)
              try simp only [Act.put, List.setIfInBounds_toArray, List.set_cons_zero, List.set_cons_succ]
              refine wpAnyH_take (i := 16) (oi := ⟨some 4, _, _, _, _, _⟩) (v := ?_) rfl (by kernel_rfl) (by kernel_rfl) (by kernel_rfl) (fun _ _ _ h => h) (Or.inl ⟨by rfl, ?_⟩) (by assumption) ?_
              rotate_left 1
              · (intro w hSw; (try dsimp only at hSw); go_simp) <;> (with_reducible rfl)
              try simp only [Act.put, List.setIfInBounds_toArray, List.set_cons_zero, List.set_cons_succ]
              refine wpAnyH_ready (rs := [15]) (by kernel_rfl) (by simp) ?_
              refine AllReadyH.cons (o := ⟨some 211, _, _, _, _, _⟩) rfl (fun K hK => ?_) AllReadyH.nil
              go_simp
              refine hK.out _ _ ?_ (fun hHeld => ?_)
              · exact Fr.alloc (by assumption) _
              clear hK K
              try simp only [Act.put, List.setIfInBounds_toArray, List.set_cons_zero, List.set_cons_succ]
              refine wpAnyH_take (i := 17) (oi := ⟨some 5, _, _, _, _, _⟩) (v := ?_) rfl (by kernel_rfl) (by kernel_rfl) (by kernel_rfl) (fun _ _ _ h => h) (Or.inl ⟨by rfl, ?_⟩) (by assumption) ?_
              rotate_left 1
              · (intro w hSw; (try dsimp only at hSw); go_simp) <;> (with_reducible rfl)
              try simp only [Act.put, List.setIfInBounds_toArray, List.set_cons_zero, List.set_cons_succ]
              refine wpAnyH_done (by kernel_rfl) ?_ _
              have HF7 : Hid (Fr NoBlk wr _) := hHeld
              clear hHeld e4 e5
              go_wp2_with fail
              refine bodyPost_ret (results_tmp2 rfl _ _ _) rfl ?_
              exact HPOST.out C c qs (some ⟨w6.heap.size, 0, none⟩) 1 [⟨R3.ep, R3.pe, 0, akN R3.ex, none, 0, []⟩] M3 R3 _ (HR3.out.nofr HF7.out) (HF3.out.trans (HF7.out.mono fun _ _ h => h.elim)) HM3.out ⟨(Rd.of_ownN HC3.out).nofr HF7.out, (fun x hx => ((HQ3.out x hx).rd.rd).nofr HF7.out), by have := HN3.out.1; omega⟩ (one_rd w6 ⟨R3.ep, R3.pe, 0, akN R3.ex, none, 0, []⟩ (Rd.nil_ _ _)) (by
                rw [HRV.out, if_neg HH.out, if_neg HEQ.out, if_neg HS0.out]
                exact ⟨rv Rk1, rv R2, HACK.out, HADD.out, HDR.out, HNO.out, rfl⟩)
            obtain ⟨i, x, hi2, hx, hxe⟩ := atI_some (xs := R3.ers) (s := R3.ex) (by rw [← hai]; exact h0)
            rw [← hai] at hi2
            subst hi2
            clear hai h0
            have hil : i < R3.ers.length := (List.getElem?_eq_some_iff.1 hx).1
            have q1 : decide ((0 : Int) ≤ (i : Int)) = true := by simp
            have q2 : (0 : Int) ≤ (i : Int) := by omega
            have q3 : (i : Int) < (R3.ers.length : Int) := by omega
            obtain ⟨b, o, hA, hc⟩ := Rd.cat erc 2 erc_len HR3.out.ear.rd (by omega) hx
            have u1 : wr.cell? ⟨b, o + i * 2 + 1, none⟩ = some (.slice x.2.1 x.2.2.2.length x.2.2.1) := hc 1 _ rfl
            have HAE := Lib.hid hA
            have HIL := Lib.hid hil
            have HX : Hid (R3.ers[i]? = some x ∧ x.1 = R3.ex) := ⟨hx, hxe⟩
            rw [hA] at c5
            obtain ⟨s0, hs, sz0, sz1, sz2⟩ := info_parts sliceInfo
            have HR8 : Hid (Rd (wr.alloc (.cells #[.slice x.2.1 x.2.2.2.length x.2.2.1] 30)) (some ⟨wr.heap.size, 0, none⟩) [.slice x.2.1 x.2.2.2.length x.2.2.1]) := Rd.of_cells (Bk.new wr _ #[.slice x.2.1 x.2.2.2.length x.2.2.1])
            have HT8 : Hid ((wr.alloc (.cells #[.slice x.2.1 x.2.2.2.length x.2.2.1] 30)).ownsRow W.heap.size 30 1 (.slice C qs.length c) qs.length (qs.map sl)) := own_fr HC3.out ((Fr.refl NoBlk wr).alloc _) (fun _ _ h => h)
            clear hc hA hx hxe
            go_wp2_with fail
            refine HAT.out.mono ?_
            rintro e w' ⟨rfl, rfl⟩
            clear HAT
            go_wp2_with (at_builtin; go_loud (refine wpList_appO rfl _ _ 38 rfl W.heap.size 30 s0 _ 1 24 Try.underlying38 hs sz0 sz1 sz2 rfl (by decide) (.slice C qs.length c) qs.length (qs.map sl) rfl HT8.out ⟨wr.heap.size, 0, none⟩ 1 1 [.slice x.2.1 x.2.2.2.length x.2.2.1] rfl rfl HR8.out ?d1 ?d2 ?d3 (Nat.le_trans HF3.out.size (by simp)) ?_))
            case d1 => intro y hy; rw [List.mem_singleton.1 hy]; rfl
            case d2 => have := HN3.out.1; unfold maxLen; omega
            case d3 => have := HN3.out.1; omega
            intro v4 w4 ho4 hg4 hb4
            obtain ⟨A4, c4, rfl, _, _⟩ := own_form ho4
            have hfa : Fr NoBlk wr (wr.alloc (.cells #[.slice x.2.1 x.2.2.2.length x.2.2.1] 30)) := (Fr.refl _ _).alloc _
            have hgf : Fr (fun j => (Value.slice C qs.length c).ownBlock = some j) wr w4 := (hfa.mono fun _ _ h => h.elim).trans ((Fr.ofGrown hg4).mono fun _ _ e => e.symm)
            have hgm : ∀ j, (Value.slice C qs.length c).ownBlock = some j → ¬ j = m := fun j hj e => by have := (own_blk HC3.out hj).1; have := HMB.out; have := HGB.out; omega
            have HR4 : Hid (RkIn M3 w4 m R3) := HR3.out.fr hgf fun k hk e => by
              rcases hk with hk | hk
              · exact HCN.out k e hk
              · exact hgm k e hk
            have HF4 : Hid (Fr (fun k => k = m) W w4) := HF3.out.step hgf fun j hj e => by have := (own_blk HC3.out e).1; omega
            have HQ4 : Hid (∀ q ∈ qs ++ [x.2], Pm M3 w4 q) := fun q hq => by
              rcases List.mem_append.1 hq with hq | hq
              · exact (HQ3.out q hq).fr hgf fun k hk e => HCN.out k e hk
              · rw [List.mem_singleton.1 hq]
                exact HR4.out.ed x (List.mem_of_getElem? HX.out.1)
            have HC4 : Hid (w4.ownsRow W.heap.size 30 1 (.slice A4 (qs.length + 1) c4) (qs.length + 1) ((qs ++ [x.2]).map sl)) := by
              show World.ownsRow _ _ _ _ _ _ _
              rw [List.map_append]
              exact ho4
            have HCN4 : Hid (∀ k, (Value.slice A4 (qs.length + 1) c4).ownBlock = some k → ¬ M3 k) := fun k hk hm => by
              rcases hb4 with e | e
              · rw [e] at hk
                exact HCN.out k hk hm
              · rw [e] at hk
                injection hk with hk
                have := HR3.out.ml k hm
                first | omega | (simp at hk; omega)
            have HEZ : Hid (waitAt wr m = R3.ers.length) := by
              show _ = _
              unfold waitAt
              rw [HR3.out.cells.2.2.2.2.2]
            clear ho4 hg4 hb4 hfa hgf hgm HR8 HT8 c3 c5 u1 q1 q2 q3
            go_upto_region 21 with fail
            go_cut [7] (fun s7 wx => s7 = .slice A4 (qs.length + 1) c4 ∧ ∃ (M5 : Nat → Prop) (A5 : Option Addr) (c5 : Nat), Hid (∀ k, M5 k → M3 k ∨ w4.heap.size ≤ k) ∧ Hid (∀ k, M3 k → M5 k) ∧ Hid (RkIn M5 wx m { R3 with ae := A5, ce := c5, ers := R3.ers.eraseIdx i }) ∧ Hid (Fr (fun k => k = m) w4 wx))
            case first => as_aux_lemma =>
              obtain ⟨i0, hi, hz0, hz1, hz2⟩ := info_parts earInfo
              obtain ⟨cc, hcc⟩ : ∃ cc, cc = R3.ce := ⟨_, rfl⟩
              have HCC : Hid (R3.ce = cc) := hcc.symm
              have hcp : R3.ers.length ≤ cc := by rw [hcc]; exact HR3.out.earc.1
              have hw64 : IntKind.i64.wrap ((i : Int) + 1) = (i : Int) + 1 := by rw [IntWalk.i64_in _ (by have := HN3.out.1; omega)]
              have h1 : (0 : Int) ≤ (i : Int) + 1 := by omega
              have h2 : (i : Int) + 1 ≤ (R3.ers.length : Int) := by omega
              have h3 : i ≤ cc := by omega
              have h3' : (i : Int) ≤ (cc : Int) := by omega
              have h4 : (R3.ers.length : Int) ≤ (cc : Int) := by omega
              have h5 : R3.ers.length ≤ cc := by omega
              have h6 : i + 1 ≤ R3.ers.length := by omega
              have h7 : ((i : Int) + 1).toNat = i + 1 := by omega
              have h8 : (i : Int) ≤ (i : Int) + 1 := by omega
              have h9 : (i : Int) + 1 ≤ (cc : Int) := by omega
              have HTK : Hid (∀ w', Fr NoBlk w4 w' → Rd w' (some ⟨b, o, none⟩) (ersc (R3.ers.take i))) := fun w' hf => by
                rw [← ersc_take, ← HAE.out]
                exact ((HR4.out.nofr hf).ear.rd).take _
              clear hcc hcp hil
              by_cases hci : cc = i + 1
              · subst hci
                have hq1 : R3.ers.length = i + 1 := by omega
                have HCI := Lib.hid hq1
                have HDP : Hid (∀ w', Fr NoBlk w4 w' → Rd w' (some ⟨b, o, none⟩) (ersc (R3.ers.drop (i + 1)))) := fun w' _ => by
                  rw [List.drop_eq_nil_of_le (by omega)]
                  exact Rd.nil_ _ _
                have hqz : R3.ers.length - (i + 1) = 0 := by omega
                clear hq1
                refine wp_region_held_drew (S := fun _ => True) (by kernel_rfl) trivial (fun hHeld => ?_)
                obtain ⟨x20, hx20⟩ : ∃ x20, x20 = w4.drew := ⟨_, rfl⟩
                have HFx20 : Hid (Fr NoBlk w4 x20) := by show Fr _ _ _; rw [hx20]; exact (Fr.refl NoBlk w4).drew
                rw [← hx20]
                clear hx20
                refine wpAnyH_take (i := 0) (oi := ⟨some 170, _, _, _, _, _⟩) (v := ?_) rfl (by kernel_rfl) (by kernel_rfl) (by kernel_rfl) (fun _ _ _ h => h) (Or.inl ⟨by rfl, ?_⟩) (by assumption) ?_
                rotate_left 1
                · (intro w hSw; (try dsimp only at hSw); go_simp) <;> (with_reducible rfl)
                try simp only [Act.put, List.setIfInBounds_toArray, List.set_cons_zero, List.set_cons_succ]
                refine wpAnyH_take (i := 2) (oi := ⟨some 172, _, _, _, _, _⟩) (v := ?_) rfl (by kernel_rfl) (by kernel_rfl) (by kernel_rfl) (fun _ _ _ h => h) (Or.inl ⟨by rfl, ?_⟩) (by assumption) ?_
                rotate_left 1
                · (intro w hSw; (try dsimp only at hSw); go_simp) <;> (with_reducible rfl)
                try simp only [Act.put, List.setIfInBounds_toArray, List.set_cons_zero, List.set_cons_succ]
                refine wpAnyH_take (i := 3) (oi := ⟨some 173, _, _, _, _, _⟩) (v := ?_) rfl (by kernel_rfl) (by kernel_rfl) (by kernel_rfl) (fun _ _ _ h => h) (Or.inl ⟨by rfl, ?_⟩) (by assumption) ?_
                rotate_left 1
                · (intro w hSw; (try dsimp only at hSw); go_simp) <;> (with_reducible rfl)
                try simp only [Act.put, List.setIfInBounds_toArray, List.set_cons_zero, List.set_cons_succ]
                refine wpAnyH_take (i := 4) (oi := ⟨some 174, _, _, _, _, _⟩) (v := ?_) rfl (by kernel_rfl) (by kernel_rfl) (by kernel_rfl) (fun _ _ _ h => h) (Or.inl ⟨by rfl, ?_⟩) (by assumption) ?_
                rotate_left 1
                · (intro w hSw; (try dsimp only at hSw); go_simp) <;> (with_reducible rfl)
                try simp only [Act.put, List.setIfInBounds_toArray, List.set_cons_zero, List.set_cons_succ]
                refine wpAnyH_take (i := 6) (oi := ⟨some 176, _, _, _, _, _⟩) (v := ?_) rfl (by kernel_rfl) (by kernel_rfl) (by kernel_rfl) (fun _ _ _ h => h) (Or.inl ⟨by rfl, ?_⟩) (by assumption) ?_
                rotate_left 1
                · (intro w hSw; (try dsimp only at hSw); go_simp) <;> (with_reducible rfl)
                try simp only [Act.put, List.setIfInBounds_toArray, List.set_cons_zero, List.set_cons_succ]
                refine wpAnyH_take (i := 9) (oi := ⟨some 179, _, _, _, _, _⟩) (v := ?_) rfl (by kernel_rfl) (by kernel_rfl) (by kernel_rfl) (fun _ _ _ h => h) (Or.inl ⟨by rfl, ?_⟩) (by assumption) ?_
                rotate_left 1
                · (intro w hSw; (try dsimp only at hSw); go_simp) <;> (with_reducible rfl)
                try simp only [Act.put, List.setIfInBounds_toArray, List.set_cons_zero, List.set_cons_succ]
                refine wpAnyH_take (i := 10) (oi := ⟨some 180, _, _, _, _, _⟩) (v := ?_) rfl (by kernel_rfl) (by kernel_rfl) (by kernel_rfl) (fun _ _ _ h => h) (Or.inl ⟨by rfl, ?_⟩) (by assumption) ?_
                rotate_left 1
                · (intro w hSw; (try dsimp only at hSw); go_simp) <;> (with_reducible rfl)
                try simp only [Act.put, List.setIfInBounds_toArray, List.set_cons_zero, List.set_cons_succ]
                refine wpAnyH_take (i := 11) (oi := ⟨some 181, _, _, _, _, _⟩) (v := ?_) rfl (by kernel_rfl) (by kernel_rfl) (by kernel_rfl) (fun _ _ _ h => h) (Or.inl ⟨by rfl, ?_⟩) (by assumption) ?_
                rotate_left 1
                · (intro w hSw; (try dsimp only at hSw); go_simp) <;> (with_reducible rfl)
                try simp only [Act.put, List.setIfInBounds_toArray, List.set_cons_zero, List.set_cons_succ]
                refine wpAnyH_take (i := 13) (oi := ⟨some 183, _, _, _, _, _⟩) (v := ?_) rfl (by kernel_rfl) (by kernel_rfl) (by kernel_rfl) (fun _ _ _ h => h) (Or.inl ⟨by rfl, ?_⟩) (by assumption) ?_
                rotate_left 1
                · (intro w hSw; (try dsimp only at hSw); go_simp) <;> (with_reducible rfl)
                try simp only [Act.put, List.setIfInBounds_toArray, List.set_cons_zero, List.set_cons_succ]
                refine wpAnyH_take (i := 14) (oi := ⟨some 184, _, _, _, _, _⟩) (v := ?_) rfl (by kernel_rfl) (by kernel_rfl) (by kernel_rfl) (fun _ _ _ h => h) (Or.inl ⟨by rfl, ?_⟩) (by assumption) ?_
                rotate_left 1
                · (intro w hSw; (try dsimp only at hSw); go_simp) <;> (with_reducible rfl)
                try simp only [Act.put, List.setIfInBounds_toArray, List.set_cons_zero, List.set_cons_succ]
                refine wpAnyH_ready (rs := [1, 5, 12]) (by kernel_rfl) (by simp) ?_
                refine AllReadyH.cons (o := ⟨some 171, _, _, _, _, _⟩) rfl (fun K hK => ?_) (AllReadyH.cons (o := ⟨some 175, _, _, _, _, _⟩) rfl (fun K hK => ?_) (AllReadyH.cons (o := ⟨some 182, _, _, _, _, _⟩) rfl (fun K hK => ?_) AllReadyH.nil))
                focus
                  go_simp
                  obtain ⟨x21, hx21⟩ : ∃ x21, x21 = x20.alloc (.cells #[] 76) := ⟨_, rfl⟩
                  obtain ⟨e1, he1⟩ : ∃ e1, e1 = x20.heap.size := ⟨_, rfl⟩
                  have hfr : Fr NoBlk x20 x21 := by rw [hx21]; exact (Fr.refl _ _).alloc _
                  have HFx21 : Hid (Fr NoBlk w4 x21) := HFx20.out.trans hfr
                  have HOx21 : Hid (x21.ownsRow w4.heap.size 76 2 (.slice (some ⟨e1, 0, none⟩) 0 0) 0 []) := by show World.ownsRow _ _ _ _ _ _ _; rw [hx21, he1]; exact own_base (World.ownsRow_made x20 #[] 0 (Nat.le_refl _) (by decide) rfl) HFx20.out.size
                  rw [← hx21, ← he1]
                  clear hx21 hfr he1
                  clear hHeld
                  refine hK.out _ _ ?_ (fun hHeld => ?_)
                  · trivial
                  clear hK K
                  try simp only [Act.put, List.setIfInBounds_toArray, List.set_cons_zero, List.set_cons_succ]
                  refine wpAnyH_ready (rs := [5, 12]) (by kernel_rfl) (by simp) ?_
                  refine AllReadyH.cons (o := ⟨some 175, _, _, _, _, _⟩) rfl (fun K hK => ?_) (AllReadyH.cons (o := ⟨some 182, _, _, _, _, _⟩) rfl (fun K hK => ?_) AllReadyH.nil)
                  focus
                    obtain ⟨_, _, _, _, _, oN⟩ := (HR4.out.nofr HFx21.out).cells
                    rw [HAE.out, HCC.out] at oN
                    go_simp
                    clear oN
                    clear hHeld
                    refine hK.out _ _ ?_ (fun hHeld => ?_)
                    · trivial
                    clear hK K
                    try simp only [Act.put, List.setIfInBounds_toArray, List.set_cons_zero, List.set_cons_succ]
                    refine wpAnyH_take (i := 7) (oi := ⟨some 177, _, _, _, _, _⟩) (v := ?_) rfl (by kernel_rfl) (by kernel_rfl) (by kernel_rfl) (fun _ _ _ h => h) (Or.inl ⟨by rfl, ?_⟩) (by assumption) ?_
                    rotate_left 1
                    · (intro w hSw; (try dsimp only at hSw); go_simp) <;> (with_reducible rfl)
                    try simp only [Act.put, List.setIfInBounds_toArray, List.set_cons_zero, List.set_cons_succ]
                    refine wpAnyH_ready (rs := [8, 12]) (by kernel_rfl) (by simp) ?_
                    refine AllReadyH.cons (o := ⟨some 178, _, _, _, _, _⟩) rfl (fun K hK => ?_) (AllReadyH.cons (o := ⟨some 182, _, _, _, _, _⟩) rfl (fun K hK => ?_) AllReadyH.nil)
                    focus
                      refine step_appN rfl _ _ 46 rfl w4.heap.size 76 i0 _ 2 32 Try.underlying46 hi hz0 hz1 hz2 rfl (by decide) (.slice (some ⟨e1, 0, none⟩) 0 0) 0 [] rfl HOx21.out (some ⟨b, o, none⟩) (i + 1) i (ersc (R3.ers.take i)) rfl (by rw [ersc_len, List.length_take, Nat.min_eq_left (Nat.le_of_lt HIL.out)]) (HTK.out _ HFx21.out) (ersc_one _) (fun h => by cases h) ?q1 ?q2 HFx21.out.size ?_
                      case q1 => have := HN3.out.1; have := HIL.out; unfold maxLen; omega
                      case q2 => have := HN3.out.1; have := HIL.out; omega
                      intro v6 x22 ho6 hg6 hb6
                      simp only [Nat.zero_add, List.nil_append] at ho6
                      obtain ⟨A6, c6, rfl, _, _⟩ := own_form ho6
                      have HOx22 : Hid (x22.ownsRow w4.heap.size 76 2 (.slice A6 i c6) i (ersc (R3.ers.take i))) := ho6
                      have HFx22 : Hid (Fr NoBlk w4 x22) := HFx21.out.grown hg6 (fun k hk hlt => by have := (own_blk HOx21.out hk).1; omega)
                      try dsimp only
                      clear ho6 hg6 hb6
                      clear hHeld
                      refine hK.out _ _ ?_ (fun hHeld => ?_)
                      · trivial
                      clear hK K
                      try simp only [Act.put, List.setIfInBounds_toArray, List.set_cons_zero, List.set_cons_succ]
                      refine wpAnyH_ready (rs := [12]) (by kernel_rfl) (by simp) ?_
                      refine AllReadyH.cons (o := ⟨some 182, _, _, _, _, _⟩) rfl (fun K hK => ?_) AllReadyH.nil
                      obtain ⟨_, _, _, _, _, oN⟩ := (HR4.out.nofr HFx22.out).cells
                      rw [HAE.out, HCC.out] at oN
                      go_simp
                      clear oN
                      clear hHeld
                      refine hK.out _ _ ?_ (fun hHeld => ?_)
                      · trivial
                      clear hK K
                      try simp only [Act.put, List.setIfInBounds_toArray, List.set_cons_zero, List.set_cons_succ]
                      refine wpAnyH_take (i := 15) (oi := ⟨some 185, _, _, _, _, _⟩) (v := ?_) rfl (by kernel_rfl) (by kernel_rfl) (by kernel_rfl) (fun _ _ _ h => h) (Or.inl ⟨by rfl, ?_⟩) (by assumption) ?_
                      rotate_left 1
                      · (intro w hSw; (try dsimp only at hSw); go_simp) <;> (with_reducible rfl)
                      try simp only [Act.put, List.setIfInBounds_toArray, List.set_cons_zero, List.set_cons_succ]
                    rotate_left 1
                    focus
                      obtain ⟨_, _, _, _, _, oN⟩ := (HR4.out.nofr HFx21.out).cells
                      rw [HAE.out, HCC.out] at oN
                      go_simp
                      clear oN
                      clear hHeld
                      refine hK.out _ _ ?_ (fun hHeld => ?_)
                      · trivial
                      clear hK K
                      try simp only [Act.put, List.setIfInBounds_toArray, List.set_cons_zero, List.set_cons_succ]
                      refine wpAnyH_take (i := 15) (oi := ⟨some 185, _, _, _, _, _⟩) (v := ?_) rfl (by kernel_rfl) (by kernel_rfl) (by kernel_rfl) (fun _ _ _ h => h) (Or.inl ⟨by rfl, ?_⟩) (by assumption) ?_
                      rotate_left 1
                      · (intro w hSw; (try dsimp only at hSw); go_simp) <;> (with_reducible rfl)
                      try simp only [Act.put, List.setIfInBounds_toArray, List.set_cons_zero, List.set_cons_succ]
                      refine wpAnyH_ready (rs := [8]) (by kernel_rfl) (by simp) ?_
                      refine AllReadyH.cons (o := ⟨some 178, _, _, _, _, _⟩) rfl (fun K hK => ?_) AllReadyH.nil
                      refine step_appN rfl _ _ 46 rfl w4.heap.size 76 i0 _ 2 32 Try.underlying46 hi hz0 hz1 hz2 rfl (by decide) (.slice (some ⟨e1, 0, none⟩) 0 0) 0 [] rfl HOx21.out (some ⟨b, o, none⟩) (i + 1) i (ersc (R3.ers.take i)) rfl (by rw [ersc_len, List.length_take, Nat.min_eq_left (Nat.le_of_lt HIL.out)]) (HTK.out _ HFx21.out) (ersc_one _) (fun h => by cases h) ?q1 ?q2 HFx21.out.size ?_
                      case q1 => have := HN3.out.1; have := HIL.out; unfold maxLen; omega
                      case q2 => have := HN3.out.1; have := HIL.out; omega
                      intro v6 x22 ho6 hg6 hb6
                      simp only [Nat.zero_add, List.nil_append] at ho6
                      obtain ⟨A6, c6, rfl, _, _⟩ := own_form ho6
                      have HOx22 : Hid (x22.ownsRow w4.heap.size 76 2 (.slice A6 i c6) i (ersc (R3.ers.take i))) := ho6
                      have HFx22 : Hid (Fr NoBlk w4 x22) := HFx21.out.grown hg6 (fun k hk hlt => by have := (own_blk HOx21.out hk).1; omega)
                      try dsimp only
                      clear ho6 hg6 hb6
                      clear hHeld
                      refine hK.out _ _ ?_ (fun hHeld => ?_)
                      · trivial
                      clear hK K
                      try simp only [Act.put, List.setIfInBounds_toArray, List.set_cons_zero, List.set_cons_succ]
                  rotate_left 2
                  focus
                    obtain ⟨_, _, _, _, _, oN⟩ := (HR4.out.nofr HFx21.out).cells
                    rw [HAE.out, HCC.out] at oN
                    go_simp
                    clear oN
                    clear hHeld
                    refine hK.out _ _ ?_ (fun hHeld => ?_)
                    · trivial
                    clear hK K
                    try simp only [Act.put, List.setIfInBounds_toArray, List.set_cons_zero, List.set_cons_succ]
                    refine wpAnyH_take (i := 15) (oi := ⟨some 185, _, _, _, _, _⟩) (v := ?_) rfl (by kernel_rfl) (by kernel_rfl) (by kernel_rfl) (fun _ _ _ h => h) (Or.inl ⟨by rfl, ?_⟩) (by assumption) ?_
                    rotate_left 1
                    · (intro w hSw; (try dsimp only at hSw); go_simp) <;> (with_reducible rfl)
                    try simp only [Act.put, List.setIfInBounds_toArray, List.set_cons_zero, List.set_cons_succ]
                    refine wpAnyH_ready (rs := [5]) (by kernel_rfl) (by simp) ?_
                    refine AllReadyH.cons (o := ⟨some 175, _, _, _, _, _⟩) rfl (fun K hK => ?_) AllReadyH.nil
                    obtain ⟨_, _, _, _, _, oN⟩ := (HR4.out.nofr HFx21.out).cells
                    rw [HAE.out, HCC.out] at oN
                    go_simp
                    clear oN
                    clear hHeld
                    refine hK.out _ _ ?_ (fun hHeld => ?_)
                    · trivial
                    clear hK K
                    try simp only [Act.put, List.setIfInBounds_toArray, List.set_cons_zero, List.set_cons_succ]
                    refine wpAnyH_take (i := 7) (oi := ⟨some 177, _, _, _, _, _⟩) (v := ?_) rfl (by kernel_rfl) (by kernel_rfl) (by kernel_rfl) (fun _ _ _ h => h) (Or.inl ⟨by rfl, ?_⟩) (by assumption) ?_
                    rotate_left 1
                    · (intro w hSw; (try dsimp only at hSw); go_simp) <;> (with_reducible rfl)
                    try simp only [Act.put, List.setIfInBounds_toArray, List.set_cons_zero, List.set_cons_succ]
                    refine wpAnyH_ready (rs := [8]) (by kernel_rfl) (by simp) ?_
                    refine AllReadyH.cons (o := ⟨some 178, _, _, _, _, _⟩) rfl (fun K hK => ?_) AllReadyH.nil
                    refine step_appN rfl _ _ 46 rfl w4.heap.size 76 i0 _ 2 32 Try.underlying46 hi hz0 hz1 hz2 rfl (by decide) (.slice (some ⟨e1, 0, none⟩) 0 0) 0 [] rfl HOx21.out (some ⟨b, o, none⟩) (i + 1) i (ersc (R3.ers.take i)) rfl (by rw [ersc_len, List.length_take, Nat.min_eq_left (Nat.le_of_lt HIL.out)]) (HTK.out _ HFx21.out) (ersc_one _) (fun h => by cases h) ?q1 ?q2 HFx21.out.size ?_
                    case q1 => have := HN3.out.1; have := HIL.out; unfold maxLen; omega
                    case q2 => have := HN3.out.1; have := HIL.out; omega
                    intro v6 x22 ho6 hg6 hb6
                    simp only [Nat.zero_add, List.nil_append] at ho6
                    obtain ⟨A6, c6, rfl, _, _⟩ := own_form ho6
                    have HOx22 : Hid (x22.ownsRow w4.heap.size 76 2 (.slice A6 i c6) i (ersc (R3.ers.take i))) := ho6
                    have HFx22 : Hid (Fr NoBlk w4 x22) := HFx21.out.grown hg6 (fun k hk hlt => by have := (own_blk HOx21.out hk).1; omega)
                    try dsimp only
                    clear ho6 hg6 hb6
                    clear hHeld
                    refine hK.out _ _ ?_ (fun hHeld => ?_)
                    · trivial
                    clear hK K
                    try simp only [Act.put, List.setIfInBounds_toArray, List.set_cons_zero, List.set_cons_succ]
                rotate_left 3
                focus
                  obtain ⟨_, _, _, _, _, oN⟩ := (HR4.out.nofr HFx20.out).cells
                  rw [HAE.out, HCC.out] at oN
                  go_simp
                  clear oN
                  clear hHeld
                  refine hK.out _ _ ?_ (fun hHeld => ?_)
                  · trivial
                  clear hK K
                  try simp only [Act.put, List.setIfInBounds_toArray, List.set_cons_zero, List.set_cons_succ]
                  refine wpAnyH_take (i := 7) (oi := ⟨some 177, _, _, _, _, _⟩) (v := ?_) rfl (by kernel_rfl) (by kernel_rfl) (by kernel_rfl) (fun _ _ _ h => h) (Or.inl ⟨by rfl, ?_⟩) (by assumption) ?_
                  rotate_left 1
                  · (intro w hSw; (try dsimp only at hSw); go_simp) <;> (with_reducible rfl)
                  try simp only [Act.put, List.setIfInBounds_toArray, List.set_cons_zero, List.set_cons_succ]
                  refine wpAnyH_ready (rs := [1, 12]) (by kernel_rfl) (by simp) ?_
                  refine AllReadyH.cons (o := ⟨some 171, _, _, _, _, _⟩) rfl (fun K hK => ?_) (AllReadyH.cons (o := ⟨some 182, _, _, _, _, _⟩) rfl (fun K hK => ?_) AllReadyH.nil)
                  focus
                    go_simp
                    obtain ⟨x21, hx21⟩ : ∃ x21, x21 = x20.alloc (.cells #[] 76) := ⟨_, rfl⟩
                    obtain ⟨e1, he1⟩ : ∃ e1, e1 = x20.heap.size := ⟨_, rfl⟩
                    have hfr : Fr NoBlk x20 x21 := by rw [hx21]; exact (Fr.refl _ _).alloc _
                    have HFx21 : Hid (Fr NoBlk w4 x21) := HFx20.out.trans hfr
                    have HOx21 : Hid (x21.ownsRow w4.heap.size 76 2 (.slice (some ⟨e1, 0, none⟩) 0 0) 0 []) := by show World.ownsRow _ _ _ _ _ _ _; rw [hx21, he1]; exact own_base (World.ownsRow_made x20 #[] 0 (Nat.le_refl _) (by decide) rfl) HFx20.out.size
                    rw [← hx21, ← he1]
                    clear hx21 hfr he1
                    clear hHeld
                    refine hK.out _ _ ?_ (fun hHeld => ?_)
                    · trivial
                    clear hK K
                    try simp only [Act.put, List.setIfInBounds_toArray, List.set_cons_zero, List.set_cons_succ]
                    refine wpAnyH_ready (rs := [8, 12]) (by kernel_rfl) (by simp) ?_
                    refine AllReadyH.cons (o := ⟨some 178, _, _, _, _, _⟩) rfl (fun K hK => ?_) (AllReadyH.cons (o := ⟨some 182, _, _, _, _, _⟩) rfl (fun K hK => ?_) AllReadyH.nil)
                    focus
                      refine step_appN rfl _ _ 46 rfl w4.heap.size 76 i0 _ 2 32 Try.underlying46 hi hz0 hz1 hz2 rfl (by decide) (.slice (some ⟨e1, 0, none⟩) 0 0) 0 [] rfl HOx21.out (some ⟨b, o, none⟩) (i + 1) i (ersc (R3.ers.take i)) rfl (by rw [ersc_len, List.length_take, Nat.min_eq_left (Nat.le_of_lt HIL.out)]) (HTK.out _ HFx21.out) (ersc_one _) (fun h => by cases h) ?q1 ?q2 HFx21.out.size ?_
                      case q1 => have := HN3.out.1; have := HIL.out; unfold maxLen; omega
                      case q2 => have := HN3.out.1; have := HIL.out; omega
                      intro v6 x22 ho6 hg6 hb6
                      simp only [Nat.zero_add, List.nil_append] at ho6
                      obtain ⟨A6, c6, rfl, _, _⟩ := own_form ho6
                      have HOx22 : Hid (x22.ownsRow w4.heap.size 76 2 (.slice A6 i c6) i (ersc (R3.ers.take i))) := ho6
                      have HFx22 : Hid (Fr NoBlk w4 x22) := HFx21.out.grown hg6 (fun k hk hlt => by have := (own_blk HOx21.out hk).1; omega)
                      try dsimp only
                      clear ho6 hg6 hb6
                      clear hHeld
                      refine hK.out _ _ ?_ (fun hHeld => ?_)
                      · trivial
                      clear hK K
                      try simp only [Act.put, List.setIfInBounds_toArray, List.set_cons_zero, List.set_cons_succ]
                      refine wpAnyH_ready (rs := [12]) (by kernel_rfl) (by simp) ?_
                      refine AllReadyH.cons (o := ⟨some 182, _, _, _, _, _⟩) rfl (fun K hK => ?_) AllReadyH.nil
                      obtain ⟨_, _, _, _, _, oN⟩ := (HR4.out.nofr HFx22.out).cells
                      rw [HAE.out, HCC.out] at oN
                      go_simp
                      clear oN
                      clear hHeld
                      refine hK.out _ _ ?_ (fun hHeld => ?_)
                      · trivial
                      clear hK K
                      try simp only [Act.put, List.setIfInBounds_toArray, List.set_cons_zero, List.set_cons_succ]
                      refine wpAnyH_take (i := 15) (oi := ⟨some 185, _, _, _, _, _⟩) (v := ?_) rfl (by kernel_rfl) (by kernel_rfl) (by kernel_rfl) (fun _ _ _ h => h) (Or.inl ⟨by rfl, ?_⟩) (by assumption) ?_
                      rotate_left 1
                      · (intro w hSw; (try dsimp only at hSw); go_simp) <;> (with_reducible rfl)
                      try simp only [Act.put, List.setIfInBounds_toArray, List.set_cons_zero, List.set_cons_succ]
                    rotate_left 1
                    focus
                      obtain ⟨_, _, _, _, _, oN⟩ := (HR4.out.nofr HFx21.out).cells
                      rw [HAE.out, HCC.out] at oN
                      go_simp
                      clear oN
                      clear hHeld
                      refine hK.out _ _ ?_ (fun hHeld => ?_)
                      · trivial
                      clear hK K
                      try simp only [Act.put, List.setIfInBounds_toArray, List.set_cons_zero, List.set_cons_succ]
                      refine wpAnyH_take (i := 15) (oi := ⟨some 185, _, _, _, _, _⟩) (v := ?_) rfl (by kernel_rfl) (by kernel_rfl) (by kernel_rfl) (fun _ _ _ h => h) (Or.inl ⟨by rfl, ?_⟩) (by assumption) ?_
                      rotate_left 1
                      · (intro w hSw; (try dsimp only at hSw); go_simp) <;> (with_reducible rfl)
                      try simp only [Act.put, List.setIfInBounds_toArray, List.set_cons_zero, List.set_cons_succ]
                      refine wpAnyH_ready (rs := [8]) (by kernel_rfl) (by simp) ?_
                      refine AllReadyH.cons (o := ⟨some 178, _, _, _, _, _⟩) rfl (fun K hK => ?_) AllReadyH.nil
                      refine step_appN rfl _ _ 46 rfl w4.heap.size 76 i0 _ 2 32 Try.underlying46 hi hz0 hz1 hz2 rfl (by decide) (.slice (some ⟨e1, 0, none⟩) 0 0) 0 [] rfl HOx21.out (some ⟨b, o, none⟩) (i + 1) i (ersc (R3.ers.take i)) rfl (by rw [ersc_len, List.length_take, Nat.min_eq_left (Nat.le_of_lt HIL.out)]) (HTK.out _ HFx21.out) (ersc_one _) (fun h => by cases h) ?q1 ?q2 HFx21.out.size ?_
                      case q1 => have := HN3.out.1; have := HIL.out; unfold maxLen; omega
                      case q2 => have := HN3.out.1; have := HIL.out; omega
                      intro v6 x22 ho6 hg6 hb6
                      simp only [Nat.zero_add, List.nil_append] at ho6
                      obtain ⟨A6, c6, rfl, _, _⟩ := own_form ho6
                      have HOx22 : Hid (x22.ownsRow w4.heap.size 76 2 (.slice A6 i c6) i (ersc (R3.ers.take i))) := ho6
                      have HFx22 : Hid (Fr NoBlk w4 x22) := HFx21.out.grown hg6 (fun k hk hlt => by have := (own_blk HOx21.out hk).1; omega)
                      try dsimp only
                      clear ho6 hg6 hb6
                      clear hHeld
                      refine hK.out _ _ ?_ (fun hHeld => ?_)
                      · trivial
                      clear hK K
                      try simp only [Act.put, List.setIfInBounds_toArray, List.set_cons_zero, List.set_cons_succ]
                  rotate_left 2
                  focus
                    obtain ⟨_, _, _, _, _, oN⟩ := (HR4.out.nofr HFx20.out).cells
                    rw [HAE.out, HCC.out] at oN
                    go_simp
                    clear oN
                    clear hHeld
                    refine hK.out _ _ ?_ (fun hHeld => ?_)
                    · trivial
                    clear hK K
                    try simp only [Act.put, List.setIfInBounds_toArray, List.set_cons_zero, List.set_cons_succ]
                    refine wpAnyH_take (i := 15) (oi := ⟨some 185, _, _, _, _, _⟩) (v := ?_) rfl (by kernel_rfl) (by kernel_rfl) (by kernel_rfl) (fun _ _ _ h => h) (Or.inl ⟨by rfl, ?_⟩) (by assumption) ?_
                    rotate_left 1
                    · (intro w hSw; (try dsimp only at hSw); go_simp) <;> (with_reducible rfl)
                    try simp only [Act.put, List.setIfInBounds_toArray, List.set_cons_zero, List.set_cons_succ]
                    refine wpAnyH_ready (rs := [1]) (by kernel_rfl) (by simp) ?_
                    refine AllReadyH.cons (o := ⟨some 171, _, _, _, _, _⟩) rfl (fun K hK => ?_) AllReadyH.nil
                    go_simp
                    obtain ⟨x21, hx21⟩ : ∃ x21, x21 = x20.alloc (.cells #[] 76) := ⟨_, rfl⟩
                    obtain ⟨e1, he1⟩ : ∃ e1, e1 = x20.heap.size := ⟨_, rfl⟩
                    have hfr : Fr NoBlk x20 x21 := by rw [hx21]; exact (Fr.refl _ _).alloc _
                    have HFx21 : Hid (Fr NoBlk w4 x21) := HFx20.out.trans hfr
                    have HOx21 : Hid (x21.ownsRow w4.heap.size 76 2 (.slice (some ⟨e1, 0, none⟩) 0 0) 0 []) := by show World.ownsRow _ _ _ _ _ _ _; rw [hx21, he1]; exact own_base (World.ownsRow_made x20 #[] 0 (Nat.le_refl _) (by decide) rfl) HFx20.out.size
                    rw [← hx21, ← he1]
                    clear hx21 hfr he1
                    clear hHeld
                    refine hK.out _ _ ?_ (fun hHeld => ?_)
                    · trivial
                    clear hK K
                    try simp only [Act.put, List.setIfInBounds_toArray, List.set_cons_zero, List.set_cons_succ]
                    refine wpAnyH_ready (rs := [8]) (by kernel_rfl) (by simp) ?_
                    refine AllReadyH.cons (o := ⟨some 178, _, _, _, _, _⟩) rfl (fun K hK => ?_) AllReadyH.nil
                    refine step_appN rfl _ _ 46 rfl w4.heap.size 76 i0 _ 2 32 Try.underlying46 hi hz0 hz1 hz2 rfl (by decide) (.slice (some ⟨e1, 0, none⟩) 0 0) 0 [] rfl HOx21.out (some ⟨b, o, none⟩) (i + 1) i (ersc (R3.ers.take i)) rfl (by rw [ersc_len, List.length_take, Nat.min_eq_left (Nat.le_of_lt HIL.out)]) (HTK.out _ HFx21.out) (ersc_one _) (fun h => by cases h) ?q1 ?q2 HFx21.out.size ?_
                    case q1 => have := HN3.out.1; have := HIL.out; unfold maxLen; omega
                    case q2 => have := HN3.out.1; have := HIL.out; omega
                    intro v6 x22 ho6 hg6 hb6
                    simp only [Nat.zero_add, List.nil_append] at ho6
                    obtain ⟨A6, c6, rfl, _, _⟩ := own_form ho6
                    have HOx22 : Hid (x22.ownsRow w4.heap.size 76 2 (.slice A6 i c6) i (ersc (R3.ers.take i))) := ho6
                    have HFx22 : Hid (Fr NoBlk w4 x22) := HFx21.out.grown hg6 (fun k hk hlt => by have := (own_blk HOx21.out hk).1; omega)
                    try dsimp only
                    clear ho6 hg6 hb6
                    clear hHeld
                    refine hK.out _ _ ?_ (fun hHeld => ?_)
                    · trivial
                    clear hK K
                    try simp only [Act.put, List.setIfInBounds_toArray, List.set_cons_zero, List.set_cons_succ]
                rotate_left 3
                focus
                  obtain ⟨_, _, _, _, _, oN⟩ := (HR4.out.nofr HFx20.out).cells
                  rw [HAE.out, HCC.out] at oN
                  go_simp
                  clear oN
                  clear hHeld
                  refine hK.out _ _ ?_ (fun hHeld => ?_)
                  · trivial
                  clear hK K
                  try simp only [Act.put, List.setIfInBounds_toArray, List.set_cons_zero, List.set_cons_succ]
                  refine wpAnyH_take (i := 15) (oi := ⟨some 185, _, _, _, _, _⟩) (v := ?_) rfl (by kernel_rfl) (by kernel_rfl) (by kernel_rfl) (fun _ _ _ h => h) (Or.inl ⟨by rfl, ?_⟩) (by assumption) ?_
                  rotate_left 1
                  · (intro w hSw; (try dsimp only at hSw); go_simp) <;> (with_reducible rfl)
                  try simp only [Act.put, List.setIfInBounds_toArray, List.set_cons_zero, List.set_cons_succ]
                  refine wpAnyH_ready (rs := [1, 5]) (by kernel_rfl) (by simp) ?_
                  refine AllReadyH.cons (o := ⟨some 171, _, _, _, _, _⟩) rfl (fun K hK => ?_) (AllReadyH.cons (o := ⟨some 175, _, _, _, _, _⟩) rfl (fun K hK => ?_) AllReadyH.nil)
                  focus
                    go_simp
                    obtain ⟨x21, hx21⟩ : ∃ x21, x21 = x20.alloc (.cells #[] 76) := ⟨_, rfl⟩
                    obtain ⟨e1, he1⟩ : ∃ e1, e1 = x20.heap.size := ⟨_, rfl⟩
                    have hfr : Fr NoBlk x20 x21 := by rw [hx21]; exact (Fr.refl _ _).alloc _
                    have HFx21 : Hid (Fr NoBlk w4 x21) := HFx20.out.trans hfr
                    have HOx21 : Hid (x21.ownsRow w4.heap.size 76 2 (.slice (some ⟨e1, 0, none⟩) 0 0) 0 []) := by show World.ownsRow _ _ _ _ _ _ _; rw [hx21, he1]; exact own_base (World.ownsRow_made x20 #[] 0 (Nat.le_refl _) (by decide) rfl) HFx20.out.size
                    rw [← hx21, ← he1]
                    clear hx21 hfr he1
                    clear hHeld
                    refine hK.out _ _ ?_ (fun hHeld => ?_)
                    · trivial
                    clear hK K
                    try simp only [Act.put, List.setIfInBounds_toArray, List.set_cons_zero, List.set_cons_succ]
                    refine wpAnyH_ready (rs := [5]) (by kernel_rfl) (by simp) ?_
                    refine AllReadyH.cons (o := ⟨some 175, _, _, _, _, _⟩) rfl (fun K hK => ?_) AllReadyH.nil
                    obtain ⟨_, _, _, _, _, oN⟩ := (HR4.out.nofr HFx21.out).cells
                    rw [HAE.out, HCC.out] at oN
                    go_simp
                    clear oN
                    clear hHeld
                    refine hK.out _ _ ?_ (fun hHeld => ?_)
                    · trivial
                    clear hK K
                    try simp only [Act.put, List.setIfInBounds_toArray, List.set_cons_zero, List.set_cons_succ]
                    refine wpAnyH_take (i := 7) (oi := ⟨some 177, _, _, _, _, _⟩) (v := ?_) rfl (by kernel_rfl) (by kernel_rfl) (by kernel_rfl) (fun _ _ _ h => h) (Or.inl ⟨by rfl, ?_⟩) (by assumption) ?_
                    rotate_left 1
                    · (intro w hSw; (try dsimp only at hSw); go_simp) <;> (with_reducible rfl)
                    try simp only [Act.put, List.setIfInBounds_toArray, List.set_cons_zero, List.set_cons_succ]
                    refine wpAnyH_ready (rs := [8]) (by kernel_rfl) (by simp) ?_
                    refine AllReadyH.cons (o := ⟨some 178, _, _, _, _, _⟩) rfl (fun K hK => ?_) AllReadyH.nil
                    refine step_appN rfl _ _ 46 rfl w4.heap.size 76 i0 _ 2 32 Try.underlying46 hi hz0 hz1 hz2 rfl (by decide) (.slice (some ⟨e1, 0, none⟩) 0 0) 0 [] rfl HOx21.out (some ⟨b, o, none⟩) (i + 1) i (ersc (R3.ers.take i)) rfl (by rw [ersc_len, List.length_take, Nat.min_eq_left (Nat.le_of_lt HIL.out)]) (HTK.out _ HFx21.out) (ersc_one _) (fun h => by cases h) ?q1 ?q2 HFx21.out.size ?_
                    case q1 => have := HN3.out.1; have := HIL.out; unfold maxLen; omega
                    case q2 => have := HN3.out.1; have := HIL.out; omega
                    intro v6 x22 ho6 hg6 hb6
                    simp only [Nat.zero_add, List.nil_append] at ho6
                    obtain ⟨A6, c6, rfl, _, _⟩ := own_form ho6
                    have HOx22 : Hid (x22.ownsRow w4.heap.size 76 2 (.slice A6 i c6) i (ersc (R3.ers.take i))) := ho6
                    have HFx22 : Hid (Fr NoBlk w4 x22) := HFx21.out.grown hg6 (fun k hk hlt => by have := (own_blk HOx21.out hk).1; omega)
                    try dsimp only
                    clear ho6 hg6 hb6
                    clear hHeld
                    refine hK.out _ _ ?_ (fun hHeld => ?_)
                    · trivial
                    clear hK K
                    try simp only [Act.put, List.setIfInBounds_toArray, List.set_cons_zero, List.set_cons_succ]
                  rotate_left 1
                  focus
                    obtain ⟨_, _, _, _, _, oN⟩ := (HR4.out.nofr HFx20.out).cells
                    rw [HAE.out, HCC.out] at oN
                    go_simp
                    clear oN
                    clear hHeld
                    refine hK.out _ _ ?_ (fun hHeld => ?_)
                    · trivial
                    clear hK K
                    try simp only [Act.put, List.setIfInBounds_toArray, List.set_cons_zero, List.set_cons_succ]
                    refine wpAnyH_take (i := 7) (oi := ⟨some 177, _, _, _, _, _⟩) (v := ?_) rfl (by kernel_rfl) (by kernel_rfl) (by kernel_rfl) (fun _ _ _ h => h) (Or.inl ⟨by rfl, ?_⟩) (by assumption) ?_
                    rotate_left 1
                    · (intro w hSw; (try dsimp only at hSw); go_simp) <;> (with_reducible rfl)
                    try simp only [Act.put, List.setIfInBounds_toArray, List.set_cons_zero, List.set_cons_succ]
                    refine wpAnyH_ready (rs := [1]) (by kernel_rfl) (by simp) ?_
                    refine AllReadyH.cons (o := ⟨some 171, _, _, _, _, _⟩) rfl (fun K hK => ?_) AllReadyH.nil
                    go_simp
                    obtain ⟨x21, hx21⟩ : ∃ x21, x21 = x20.alloc (.cells #[] 76) := ⟨_, rfl⟩
                    obtain ⟨e1, he1⟩ : ∃ e1, e1 = x20.heap.size := ⟨_, rfl⟩
                    have hfr : Fr NoBlk x20 x21 := by rw [hx21]; exact (Fr.refl _ _).alloc _
                    have HFx21 : Hid (Fr NoBlk w4 x21) := HFx20.out.trans hfr
                    have HOx21 : Hid (x21.ownsRow w4.heap.size 76 2 (.slice (some ⟨e1, 0, none⟩) 0 0) 0 []) := by show World.ownsRow _ _ _ _ _ _ _; rw [hx21, he1]; exact own_base (World.ownsRow_made x20 #[] 0 (Nat.le_refl _) (by decide) rfl) HFx20.out.size
                    rw [← hx21, ← he1]
                    clear hx21 hfr he1
                    clear hHeld
                    refine hK.out _ _ ?_ (fun hHeld => ?_)
                    · trivial
                    clear hK K
                    try simp only [Act.put, List.setIfInBounds_toArray, List.set_cons_zero, List.set_cons_succ]
                    refine wpAnyH_ready (rs := [8]) (by kernel_rfl) (by simp) ?_
                    refine AllReadyH.cons (o := ⟨some 178, _, _, _, _, _⟩) rfl (fun K hK => ?_) AllReadyH.nil
                    refine step_appN rfl _ _ 46 rfl w4.heap.size 76 i0 _ 2 32 Try.underlying46 hi hz0 hz1 hz2 rfl (by decide) (.slice (some ⟨e1, 0, none⟩) 0 0) 0 [] rfl HOx21.out (some ⟨b, o, none⟩) (i + 1) i (ersc (R3.ers.take i)) rfl (by rw [ersc_len, List.length_take, Nat.min_eq_left (Nat.le_of_lt HIL.out)]) (HTK.out _ HFx21.out) (ersc_one _) (fun h => by cases h) ?q1 ?q2 HFx21.out.size ?_
                    case q1 => have := HN3.out.1; have := HIL.out; unfold maxLen; omega
                    case q2 => have := HN3.out.1; have := HIL.out; omega
                    intro v6 x22 ho6 hg6 hb6
                    simp only [Nat.zero_add, List.nil_append] at ho6
                    obtain ⟨A6, c6, rfl, _, _⟩ := own_form ho6
                    have HOx22 : Hid (x22.ownsRow w4.heap.size 76 2 (.slice A6 i c6) i (ersc (R3.ers.take i))) := ho6
                    have HFx22 : Hid (Fr NoBlk w4 x22) := HFx21.out.grown hg6 (fun k hk hlt => by have := (own_blk HOx21.out hk).1; omega)
                    try dsimp only
                    clear ho6 hg6 hb6
                    clear hHeld
                    refine hK.out _ _ ?_ (fun hHeld => ?_)
                    · trivial
                    clear hK K
                    try simp only [Act.put, List.setIfInBounds_toArray, List.set_cons_zero, List.set_cons_succ]
                all_goals
                  refine wpAnyH_ready (rs := [16]) (by kernel_rfl) (by simp) ?_
                  refine AllReadyH.cons (o := ⟨some 186, _, _, _, _, _⟩) rfl (fun K hK => ?_) AllReadyH.nil
                  refine step_appN rfl _ _ 46 rfl w4.heap.size 76 i0 _ 2 32 Try.underlying46 hi hz0 hz1 hz2 rfl (by decide) (.slice A6 i c6) i (ersc (R3.ers.take i)) rfl HOx22.out (some ⟨b, o, none⟩) 0 0 (ersc (R3.ers.drop (i + 1))) rfl (by rw [ersc_len, List.length_drop]; have := HCI.out; omega) (HDP.out _ HFx22.out) (ersc_one _) (fun h => by cases h) ?q1 ?q2 HFx22.out.size ?_
                  case q1 => have := HN3.out.1; have := HIL.out; unfold maxLen; omega
                  case q2 => have := HN3.out.1; have := HIL.out; omega
                  intro v9 x23 ho9 hg9 hb9
                  obtain ⟨A9, c9, rfl, _, _⟩ := own_form ho9
                  have HFx23 : Hid (Fr NoBlk w4 x23) := HFx22.out.grown hg9 (fun k hk hlt => by have := (own_blk HOx22.out hk).1; omega)
                  have HOZ : Hid (x23.ownsRow w4.heap.size 76 2 (.slice A9 (i) c9) (i) (ersc (R3.ers.eraseIdx i))) := by
                    show World.ownsRow _ _ _ _ _ _ _
                    rw [← ersc_erase, ersc_take, ersc_drop]
                    exact ho9
                  have HS := Lib.hid ((HR4.out.nofr HFx23.out).put5 (M' := fun k => M3 k ∨ (Value.slice A9 (i) c9).ownBlock = some k) (xs := R3.ers.eraseIdx i) HOZ.out (by have := HIL.out; rw [List.length_eraseIdx, if_pos HIL.out]; have := HCI.out; omega) (fun k hk => .inl hk) (fun k hk => .inr hk) (fun x hx => ((HR4.out.nofr HFx23.out).ed x (List.mem_of_mem_eraseIdx hx)).mono fun _ hk => .inl hk) (by have := HN3.out.1; have := HIL.out; omega) (fun e => by
                    rcases e with e | e
                    · exact HR4.out.mm e
                    · have := (own_blk HOZ.out e).1; have := HR4.out.bk.lt; omega) (fun k hk => by
                    rcases hk with hk | hk
                    · exact (HR4.out.nofr HFx23.out).ml k hk
                    · exact (own_blk HOZ.out hk).2))
                  obtain ⟨_, _, _, _, _, oN⟩ := (HR4.out.nofr HFx23.out).cells
                  have fN := (HR4.out.nofr HFx23.out).bk.free 5
                  clear ho9 hg9 hb9
                  clear hHeld
                  refine hK.out _ _ ?_ (fun hHeld => ?_)
                  · trivial
                  clear hK K
                  try simp only [Act.put, List.setIfInBounds_toArray, List.set_cons_zero, List.set_cons_succ]
                  refine wpAnyH_take (i := 17) (oi := ⟨some 187, _, _, _, _, _⟩) (v := ?_) rfl (by kernel_rfl) (by kernel_rfl) (by kernel_rfl) (fun _ _ _ h => h) (Or.inl ⟨by rfl, ?_⟩) (by assumption) ?_
                  rotate_left 1
                  · (intro w hSw; (try dsimp only at hSw); go_simp) <;> (with_reducible rfl)
                  try simp only [Act.put, List.setIfInBounds_toArray, List.set_cons_zero, List.set_cons_succ]
                  refine wpAnyH_take (i := 18) (oi := ⟨some 188, _, _, _, _, _⟩) (v := ?_) rfl (by kernel_rfl) (by kernel_rfl) (by kernel_rfl) (fun _ _ _ h => h) (Or.inl ⟨by rfl, ?_⟩) (by assumption) ?_
                  rotate_left 1
                  · (intro w hSw; (try dsimp only at hSw); go_simp) <;> (with_reducible rfl)
                  try simp only [Act.put, List.setIfInBounds_toArray, List.set_cons_zero, List.set_cons_succ]
                  refine wpAnyH_ready (rs := [19]) (by kernel_rfl) (by simp) ?_
                  refine AllReadyH.cons (o := ⟨none, _, _, _, _, _⟩) rfl (fun K hK => ?_) AllReadyH.nil
                  go_simp
                  clear hHeld
                  refine hK.out _ _ ?_ (fun hHeld => ?_)
                  · trivial
                  clear hK K
                  try simp only [Act.put, List.setIfInBounds_toArray, List.set_cons_zero, List.set_cons_succ]
                  refine wpAnyH_done (by kernel_rfl) ?_ _
                  clear hHeld fN oN
                  try go_wp2_with fail
                  go_meet
                  exact ⟨rfl, _, _, _, (fun k hk => hk.imp id fun h => (own_blk HOZ.out h).1), (fun k hk => .inl hk), HS.out.1, (HFx23.out.mono fun _ _ h => h.elim).trans HS.out.2⟩
              · have HDP : Hid (∀ w', Fr NoBlk w4 w' → Rd w' (some ⟨b, o + (i + 1) * 2, none⟩) (ersc (R3.ers.drop (i + 1)))) := fun w' hf => by
                  intro hpos
                  rw [← ersc_drop] at hpos ⊢
                  refine ⟨b, o + (i + 1) * 2, rfl, fun j v hv => ?_⟩
                  rw [List.getElem?_drop] at hv
                  obtain ⟨b', o', e, hc⟩ := (HR4.out.nofr hf).ear.rd (by have := (List.getElem?_eq_some_iff.1 hv).1; omega)
                  rw [HAE.out] at e
                  injection e with e
                  injection e with e1 e2
                  subst e1 e2
                  have := hc _ _ hv
                  rwa [← Nat.add_assoc] at this
                refine wp_region_held_drew (S := fun _ => True) (by kernel_rfl) trivial (fun hHeld => ?_)
                obtain ⟨x20, hx20⟩ : ∃ x20, x20 = w4.drew := ⟨_, rfl⟩
                have HFx20 : Hid (Fr NoBlk w4 x20) := by show Fr _ _ _; rw [hx20]; exact (Fr.refl NoBlk w4).drew
                rw [← hx20]
                clear hx20
                refine wpAnyH_take (i := 0) (oi := ⟨some 170, _, _, _, _, _⟩) (v := ?_) rfl (by kernel_rfl) (by kernel_rfl) (by kernel_rfl) (fun _ _ _ h => h) (Or.inl ⟨by rfl, ?_⟩) (by assumption) ?_
                rotate_left 1
                · (intro w hSw; (try dsimp only at hSw); go_simp) <;> (with_reducible rfl)
                try simp only [Act.put, List.setIfInBounds_toArray, List.set_cons_zero, List.set_cons_succ]
                refine wpAnyH_take (i := 2) (oi := ⟨some 172, _, _, _, _, _⟩) (v := ?_) rfl (by kernel_rfl) (by kernel_rfl) (by kernel_rfl) (fun _ _ _ h => h) (Or.inl ⟨by rfl, ?_⟩) (by assumption) ?_
                rotate_left 1
                · (intro w hSw; (try dsimp only at hSw); go_simp) <;> (with_reducible rfl)
                try simp only [Act.put, List.setIfInBounds_toArray, List.set_cons_zero, List.set_cons_succ]
                refine wpAnyH_take (i := 3) (oi := ⟨some 173, _, _, _, _, _⟩) (v := ?_) rfl (by kernel_rfl) (by kernel_rfl) (by kernel_rfl) (fun _ _ _ h => h) (Or.inl ⟨by rfl, ?_⟩) (by assumption) ?_
                rotate_left 1
                · (intro w hSw; (try dsimp only at hSw); go_simp) <;> (with_reducible rfl)
                try simp only [Act.put, List.setIfInBounds_toArray, List.set_cons_zero, List.set_cons_succ]
                refine wpAnyH_take (i := 4) (oi := ⟨some 174, _, _, _, _, _⟩) (v := ?_) rfl (by kernel_rfl) (by kernel_rfl) (by kernel_rfl) (fun _ _ _ h => h) (Or.inl ⟨by rfl, ?_⟩) (by assumption) ?_
                rotate_left 1
                · (intro w hSw; (try dsimp only at hSw); go_simp) <;> (with_reducible rfl)
                try simp only [Act.put, List.setIfInBounds_toArray, List.set_cons_zero, List.set_cons_succ]
                refine wpAnyH_take (i := 6) (oi := ⟨some 176, _, _, _, _, _⟩) (v := ?_) rfl (by kernel_rfl) (by kernel_rfl) (by kernel_rfl) (fun _ _ _ h => h) (Or.inl ⟨by rfl, ?_⟩) (by assumption) ?_
                rotate_left 1
                · (intro w hSw; (try dsimp only at hSw); go_simp) <;> (with_reducible rfl)
                try simp only [Act.put, List.setIfInBounds_toArray, List.set_cons_zero, List.set_cons_succ]
                refine wpAnyH_take (i := 9) (oi := ⟨some 179, _, _, _, _, _⟩) (v := ?_) rfl (by kernel_rfl) (by kernel_rfl) (by kernel_rfl) (fun _ _ _ h => h) (Or.inl ⟨by rfl, ?_⟩) (by assumption) ?_
                rotate_left 1
                · (intro w hSw; (try dsimp only at hSw); go_simp) <;> (with_reducible rfl)
                try simp only [Act.put, List.setIfInBounds_toArray, List.set_cons_zero, List.set_cons_succ]
                refine wpAnyH_take (i := 10) (oi := ⟨some 180, _, _, _, _, _⟩) (v := ?_) rfl (by kernel_rfl) (by kernel_rfl) (by kernel_rfl) (fun _ _ _ h => h) (Or.inl ⟨by rfl, ?_⟩) (by assumption) ?_
                rotate_left 1
                · (intro w hSw; (try dsimp only at hSw); go_simp) <;> (with_reducible rfl)
                try simp only [Act.put, List.setIfInBounds_toArray, List.set_cons_zero, List.set_cons_succ]
                refine wpAnyH_take (i := 11) (oi := ⟨some 181, _, _, _, _, _⟩) (v := ?_) rfl (by kernel_rfl) (by kernel_rfl) (by kernel_rfl) (fun _ _ _ h => h) (Or.inl ⟨by rfl, ?_⟩) (by assumption) ?_
                rotate_left 1
                · (intro w hSw; (try dsimp only at hSw); go_simp) <;> (with_reducible rfl)
                try simp only [Act.put, List.setIfInBounds_toArray, List.set_cons_zero, List.set_cons_succ]
                refine wpAnyH_take (i := 13) (oi := ⟨some 183, _, _, _, _, _⟩) (v := ?_) rfl (by kernel_rfl) (by kernel_rfl) (by kernel_rfl) (fun _ _ _ h => h) (Or.inl ⟨by rfl, ?_⟩) (by assumption) ?_
                rotate_left 1
                · (intro w hSw; (try dsimp only at hSw); go_simp) <;> (with_reducible rfl)
                try simp only [Act.put, List.setIfInBounds_toArray, List.set_cons_zero, List.set_cons_succ]
                refine wpAnyH_take (i := 14) (oi := ⟨some 184, _, _, _, _, _⟩) (v := ?_) rfl (by kernel_rfl) (by kernel_rfl) (by kernel_rfl) (fun _ _ _ h => h) (Or.inl ⟨by rfl, ?_⟩) (by assumption) ?_
                rotate_left 1
                · (intro w hSw; (try dsimp only at hSw); go_simp) <;> (with_reducible rfl)
                try simp only [Act.put, List.setIfInBounds_toArray, List.set_cons_zero, List.set_cons_succ]
                refine wpAnyH_ready (rs := [1, 5, 12]) (by kernel_rfl) (by simp) ?_
                refine AllReadyH.cons (o := ⟨some 171, _, _, _, _, _⟩) rfl (fun K hK => ?_) (AllReadyH.cons (o := ⟨some 175, _, _, _, _, _⟩) rfl (fun K hK => ?_) (AllReadyH.cons (o := ⟨some 182, _, _, _, _, _⟩) rfl (fun K hK => ?_) AllReadyH.nil))
                focus
                  go_simp
                  obtain ⟨x21, hx21⟩ : ∃ x21, x21 = x20.alloc (.cells #[] 76) := ⟨_, rfl⟩
                  obtain ⟨e1, he1⟩ : ∃ e1, e1 = x20.heap.size := ⟨_, rfl⟩
                  have hfr : Fr NoBlk x20 x21 := by rw [hx21]; exact (Fr.refl _ _).alloc _
                  have HFx21 : Hid (Fr NoBlk w4 x21) := HFx20.out.trans hfr
                  have HOx21 : Hid (x21.ownsRow w4.heap.size 76 2 (.slice (some ⟨e1, 0, none⟩) 0 0) 0 []) := by show World.ownsRow _ _ _ _ _ _ _; rw [hx21, he1]; exact own_base (World.ownsRow_made x20 #[] 0 (Nat.le_refl _) (by decide) rfl) HFx20.out.size
                  rw [← hx21, ← he1]
                  clear hx21 hfr he1
                  clear hHeld
                  refine hK.out _ _ ?_ (fun hHeld => ?_)
                  · trivial
                  clear hK K
                  try simp only [Act.put, List.setIfInBounds_toArray, List.set_cons_zero, List.set_cons_succ]
                  refine wpAnyH_ready (rs := [5, 12]) (by kernel_rfl) (by simp) ?_
                  refine AllReadyH.cons (o := ⟨some 175, _, _, _, _, _⟩) rfl (fun K hK => ?_) (AllReadyH.cons (o := ⟨some 182, _, _, _, _, _⟩) rfl (fun K hK => ?_) AllReadyH.nil)
                  focus
                    obtain ⟨_, _, _, _, _, oN⟩ := (HR4.out.nofr HFx21.out).cells
                    rw [HAE.out, HCC.out] at oN
                    go_simp
                    clear oN
                    clear hHeld
                    refine hK.out _ _ ?_ (fun hHeld => ?_)
                    · trivial
                    clear hK K
                    try simp only [Act.put, List.setIfInBounds_toArray, List.set_cons_zero, List.set_cons_succ]
                    refine wpAnyH_take (i := 7) (oi := ⟨some 177, _, _, _, _, _⟩) (v := ?_) rfl (by kernel_rfl) (by kernel_rfl) (by kernel_rfl) (fun _ _ _ h => h) (Or.inl ⟨by rfl, ?_⟩) (by assumption) ?_
                    rotate_left 1
                    · (intro w hSw; (try dsimp only at hSw); go_simp) <;> (with_reducible rfl)
                    try simp only [Act.put, List.setIfInBounds_toArray, List.set_cons_zero, List.set_cons_succ]
                    refine wpAnyH_ready (rs := [8, 12]) (by kernel_rfl) (by simp) ?_
                    refine AllReadyH.cons (o := ⟨some 178, _, _, _, _, _⟩) rfl (fun K hK => ?_) (AllReadyH.cons (o := ⟨some 182, _, _, _, _, _⟩) rfl (fun K hK => ?_) AllReadyH.nil)
                    focus
                      refine step_appN rfl _ _ 46 rfl w4.heap.size 76 i0 _ 2 32 Try.underlying46 hi hz0 hz1 hz2 rfl (by decide) (.slice (some ⟨e1, 0, none⟩) 0 0) 0 [] rfl HOx21.out (some ⟨b, o, none⟩) cc i (ersc (R3.ers.take i)) rfl (by rw [ersc_len, List.length_take, Nat.min_eq_left (Nat.le_of_lt HIL.out)]) (HTK.out _ HFx21.out) (ersc_one _) (fun h => by cases h) ?q1 ?q2 HFx21.out.size ?_
                      case q1 => have := HN3.out.1; have := HIL.out; unfold maxLen; omega
                      case q2 => have := HN3.out.1; have := HIL.out; omega
                      intro v6 x22 ho6 hg6 hb6
                      simp only [Nat.zero_add, List.nil_append] at ho6
                      obtain ⟨A6, c6, rfl, _, _⟩ := own_form ho6
                      have HOx22 : Hid (x22.ownsRow w4.heap.size 76 2 (.slice A6 i c6) i (ersc (R3.ers.take i))) := ho6
                      have HFx22 : Hid (Fr NoBlk w4 x22) := HFx21.out.grown hg6 (fun k hk hlt => by have := (own_blk HOx21.out hk).1; omega)
                      try dsimp only
                      clear ho6 hg6 hb6
                      clear hHeld
                      refine hK.out _ _ ?_ (fun hHeld => ?_)
                      · trivial
                      clear hK K
                      try simp only [Act.put, List.setIfInBounds_toArray, List.set_cons_zero, List.set_cons_succ]
                      refine wpAnyH_ready (rs := [12]) (by kernel_rfl) (by simp) ?_
                      refine AllReadyH.cons (o := ⟨some 182, _, _, _, _, _⟩) rfl (fun K hK => ?_) AllReadyH.nil
                      obtain ⟨_, _, _, _, _, oN⟩ := (HR4.out.nofr HFx22.out).cells
                      rw [HAE.out, HCC.out] at oN
                      go_simp
                      clear oN
                      clear hHeld
                      refine hK.out _ _ ?_ (fun hHeld => ?_)
                      · trivial
                      clear hK K
                      try simp only [Act.put, List.setIfInBounds_toArray, List.set_cons_zero, List.set_cons_succ]
                      refine wpAnyH_take (i := 15) (oi := ⟨some 185, _, _, _, _, _⟩) (v := ?_) rfl (by kernel_rfl) (by kernel_rfl) (by kernel_rfl) (fun _ _ _ h => h) (Or.inl ⟨by rfl, ?_⟩) (by assumption) ?_
                      rotate_left 1
                      · (intro w hSw; (try dsimp only at hSw); go_simp) <;> (with_reducible rfl)
                      try simp only [Act.put, List.setIfInBounds_toArray, List.set_cons_zero, List.set_cons_succ]
                    rotate_left 1
                    focus
                      obtain ⟨_, _, _, _, _, oN⟩ := (HR4.out.nofr HFx21.out).cells
                      rw [HAE.out, HCC.out] at oN
                      go_simp
                      clear oN
                      clear hHeld
                      refine hK.out _ _ ?_ (fun hHeld => ?_)
                      · trivial
                      clear hK K
                      try simp only [Act.put, List.setIfInBounds_toArray, List.set_cons_zero, List.set_cons_succ]
                      refine wpAnyH_take (i := 15) (oi := ⟨some 185, _, _, _, _, _⟩) (v := ?_) rfl (by kernel_rfl) (by kernel_rfl) (by kernel_rfl) (fun _ _ _ h => h) (Or.inl ⟨by rfl, ?_⟩) (by assumption) ?_
                      rotate_left 1
                      · (intro w hSw; (try dsimp only at hSw); go_simp) <;> (with_reducible rfl)
                      try simp only [Act.put, List.setIfInBounds_toArray, List.set_cons_zero, List.set_cons_succ]
                      refine wpAnyH_ready (rs := [8]) (by kernel_rfl) (by simp) ?_
                      refine AllReadyH.cons (o := ⟨some 178, _, _, _, _, _⟩) rfl (fun K hK => ?_) AllReadyH.nil
                      refine step_appN rfl _ _ 46 rfl w4.heap.size 76 i0 _ 2 32 Try.underlying46 hi hz0 hz1 hz2 rfl (by decide) (.slice (some ⟨e1, 0, none⟩) 0 0) 0 [] rfl HOx21.out (some ⟨b, o, none⟩) cc i (ersc (R3.ers.take i)) rfl (by rw [ersc_len, List.length_take, Nat.min_eq_left (Nat.le_of_lt HIL.out)]) (HTK.out _ HFx21.out) (ersc_one _) (fun h => by cases h) ?q1 ?q2 HFx21.out.size ?_
                      case q1 => have := HN3.out.1; have := HIL.out; unfold maxLen; omega
                      case q2 => have := HN3.out.1; have := HIL.out; omega
                      intro v6 x22 ho6 hg6 hb6
                      simp only [Nat.zero_add, List.nil_append] at ho6
                      obtain ⟨A6, c6, rfl, _, _⟩ := own_form ho6
                      have HOx22 : Hid (x22.ownsRow w4.heap.size 76 2 (.slice A6 i c6) i (ersc (R3.ers.take i))) := ho6
                      have HFx22 : Hid (Fr NoBlk w4 x22) := HFx21.out.grown hg6 (fun k hk hlt => by have := (own_blk HOx21.out hk).1; omega)
                      try dsimp only
                      clear ho6 hg6 hb6
                      clear hHeld
                      refine hK.out _ _ ?_ (fun hHeld => ?_)
                      · trivial
                      clear hK K
                      try simp only [Act.put, List.setIfInBounds_toArray, List.set_cons_zero, List.set_cons_succ]
                  rotate_left 2
                  focus
                    obtain ⟨_, _, _, _, _, oN⟩ := (HR4.out.nofr HFx21.out).cells
                    rw [HAE.out, HCC.out] at oN
                    go_simp
                    clear oN
                    clear hHeld
                    refine hK.out _ _ ?_ (fun hHeld => ?_)
                    · trivial
                    clear hK K
                    try simp only [Act.put, List.setIfInBounds_toArray, List.set_cons_zero, List.set_cons_succ]
                    refine wpAnyH_take (i := 15) (oi := ⟨some 185, _, _, _, _, _⟩) (v := ?_) rfl (by kernel_rfl) (by kernel_rfl) (by kernel_rfl) (fun _ _ _ h => h) (Or.inl ⟨by rfl, ?_⟩) (by assumption) ?_
                    rotate_left 1
                    · (intro w hSw; (try dsimp only at hSw); go_simp) <;> (with_reducible rfl)
                    try simp only [Act.put, List.setIfInBounds_toArray, List.set_cons_zero, List.set_cons_succ]
                    refine wpAnyH_ready (rs := [5]) (by kernel_rfl) (by simp) ?_
                    refine AllReadyH.cons (o := ⟨some 175, _, _, _, _, _⟩) rfl (fun K hK => ?_) AllReadyH.nil
                    obtain ⟨_, _, _, _, _, oN⟩ := (HR4.out.nofr HFx21.out).cells
                    rw [HAE.out, HCC.out] at oN
                    go_simp
                    clear oN
                    clear hHeld
                    refine hK.out _ _ ?_ (fun hHeld => ?_)
                    · trivial
                    clear hK K
                    try simp only [Act.put, List.setIfInBounds_toArray, List.set_cons_zero, List.set_cons_succ]
                    refine wpAnyH_take (i := 7) (oi := ⟨some 177, _, _, _, _, _⟩) (v := ?_) rfl (by kernel_rfl) (by kernel_rfl) (by kernel_rfl) (fun _ _ _ h => h) (Or.inl ⟨by rfl, ?_⟩) (by assumption) ?_
                    rotate_left 1
                    · (intro w hSw; (try dsimp only at hSw); go_simp) <;> (with_reducible rfl)
                    try simp only [Act.put, List.setIfInBounds_toArray, List.set_cons_zero, List.set_cons_succ]
                    refine wpAnyH_ready (rs := [8]) (by kernel_rfl) (by simp) ?_
                    refine AllReadyH.cons (o := ⟨some 178, _, _, _, _, _⟩) rfl (fun K hK => ?_) AllReadyH.nil
                    refine step_appN rfl _ _ 46 rfl w4.heap.size 76 i0 _ 2 32 Try.underlying46 hi hz0 hz1 hz2 rfl (by decide) (.slice (some ⟨e1, 0, none⟩) 0 0) 0 [] rfl HOx21.out (some ⟨b, o, none⟩) cc i (ersc (R3.ers.take i)) rfl (by rw [ersc_len, List.length_take, Nat.min_eq_left (Nat.le_of_lt HIL.out)]) (HTK.out _ HFx21.out) (ersc_one _) (fun h => by cases h) ?q1 ?q2 HFx21.out.size ?_
                    case q1 => have := HN3.out.1; have := HIL.out; unfold maxLen; omega
                    case q2 => have := HN3.out.1; have := HIL.out; omega
                    intro v6 x22 ho6 hg6 hb6
                    simp only [Nat.zero_add, List.nil_append] at ho6
                    obtain ⟨A6, c6, rfl, _, _⟩ := own_form ho6
                    have HOx22 : Hid (x22.ownsRow w4.heap.size 76 2 (.slice A6 i c6) i (ersc (R3.ers.take i))) := ho6
                    have HFx22 : Hid (Fr NoBlk w4 x22) := HFx21.out.grown hg6 (fun k hk hlt => by have := (own_blk HOx21.out hk).1; omega)
                    try dsimp only
                    clear ho6 hg6 hb6
                    clear hHeld
                    refine hK.out _ _ ?_ (fun hHeld => ?_)
                    · trivial
                    clear hK K
                    try simp only [Act.put, List.setIfInBounds_toArray, List.set_cons_zero, List.set_cons_succ]
                rotate_left 3
                focus
                  obtain ⟨_, _, _, _, _, oN⟩ := (HR4.out.nofr HFx20.out).cells
                  rw [HAE.out, HCC.out] at oN
                  go_simp
                  clear oN
                  clear hHeld
                  refine hK.out _ _ ?_ (fun hHeld => ?_)
                  · trivial
                  clear hK K
                  try simp only [Act.put, List.setIfInBounds_toArray, List.set_cons_zero, List.set_cons_succ]
                  refine wpAnyH_take (i := 7) (oi := ⟨some 177, _, _, _, _, _⟩) (v := ?_) rfl (by kernel_rfl) (by kernel_rfl) (by kernel_rfl) (fun _ _ _ h => h) (Or.inl ⟨by rfl, ?_⟩) (by assumption) ?_
                  rotate_left 1
                  · (intro w hSw; (try dsimp only at hSw); go_simp) <;> (with_reducible rfl)
                  try simp only [Act.put, List.setIfInBounds_toArray, List.set_cons_zero, List.set_cons_succ]
                  refine wpAnyH_ready (rs := [1, 12]) (by kernel_rfl) (by simp) ?_
                  refine AllReadyH.cons (o := ⟨some 171, _, _, _, _, _⟩) rfl (fun K hK => ?_) (AllReadyH.cons (o := ⟨some 182, _, _, _, _, _⟩) rfl (fun K hK => ?_) AllReadyH.nil)
                  focus
                    go_simp
                    obtain ⟨x21, hx21⟩ : ∃ x21, x21 = x20.alloc (.cells #[] 76) := ⟨_, rfl⟩
                    obtain ⟨e1, he1⟩ : ∃ e1, e1 = x20.heap.size := ⟨_, rfl⟩
                    have hfr : Fr NoBlk x20 x21 := by rw [hx21]; exact (Fr.refl _ _).alloc _
                    have HFx21 : Hid (Fr NoBlk w4 x21) := HFx20.out.trans hfr
                    have HOx21 : Hid (x21.ownsRow w4.heap.size 76 2 (.slice (some ⟨e1, 0, none⟩) 0 0) 0 []) := by show World.ownsRow _ _ _ _ _ _ _; rw [hx21, he1]; exact own_base (World.ownsRow_made x20 #[] 0 (Nat.le_refl _) (by decide) rfl) HFx20.out.size
                    rw [← hx21, ← he1]
                    clear hx21 hfr he1
                    clear hHeld
                    refine hK.out _ _ ?_ (fun hHeld => ?_)
                    · trivial
                    clear hK K
                    try simp only [Act.put, List.setIfInBounds_toArray, List.set_cons_zero, List.set_cons_succ]
                    refine wpAnyH_ready (rs := [8, 12]) (by kernel_rfl) (by simp) ?_
                    refine AllReadyH.cons (o := ⟨some 178, _, _, _, _, _⟩) rfl (fun K hK => ?_) (AllReadyH.cons (o := ⟨some 182, _, _, _, _, _⟩) rfl (fun K hK => ?_) AllReadyH.nil)
                    focus
                      refine step_appN rfl _ _ 46 rfl w4.heap.size 76 i0 _ 2 32 Try.underlying46 hi hz0 hz1 hz2 rfl (by decide) (.slice (some ⟨e1, 0, none⟩) 0 0) 0 [] rfl HOx21.out (some ⟨b, o, none⟩) cc i (ersc (R3.ers.take i)) rfl (by rw [ersc_len, List.length_take, Nat.min_eq_left (Nat.le_of_lt HIL.out)]) (HTK.out _ HFx21.out) (ersc_one _) (fun h => by cases h) ?q1 ?q2 HFx21.out.size ?_
                      case q1 => have := HN3.out.1; have := HIL.out; unfold maxLen; omega
                      case q2 => have := HN3.out.1; have := HIL.out; omega
                      intro v6 x22 ho6 hg6 hb6
                      simp only [Nat.zero_add, List.nil_append] at ho6
                      obtain ⟨A6, c6, rfl, _, _⟩ := own_form ho6
                      have HOx22 : Hid (x22.ownsRow w4.heap.size 76 2 (.slice A6 i c6) i (ersc (R3.ers.take i))) := ho6
                      have HFx22 : Hid (Fr NoBlk w4 x22) := HFx21.out.grown hg6 (fun k hk hlt => by have := (own_blk HOx21.out hk).1; omega)
                      try dsimp only
                      clear ho6 hg6 hb6
                      clear hHeld
                      refine hK.out _ _ ?_ (fun hHeld => ?_)
                      · trivial
                      clear hK K
                      try simp only [Act.put, List.setIfInBounds_toArray, List.set_cons_zero, List.set_cons_succ]
                      refine wpAnyH_ready (rs := [12]) (by kernel_rfl) (by simp) ?_
                      refine AllReadyH.cons (o := ⟨some 182, _, _, _, _, _⟩) rfl (fun K hK => ?_) AllReadyH.nil
                      obtain ⟨_, _, _, _, _, oN⟩ := (HR4.out.nofr HFx22.out).cells
                      rw [HAE.out, HCC.out] at oN
                      go_simp
                      clear oN
                      clear hHeld
                      refine hK.out _ _ ?_ (fun hHeld => ?_)
                      · trivial
                      clear hK K
                      try simp only [Act.put, List.setIfInBounds_toArray, List.set_cons_zero, List.set_cons_succ]
                      refine wpAnyH_take (i := 15) (oi := ⟨some 185, _, _, _, _, _⟩) (v := ?_) rfl (by kernel_rfl) (by kernel_rfl) (by kernel_rfl) (fun _ _ _ h => h) (Or.inl ⟨by rfl, ?_⟩) (by assumption) ?_
                      rotate_left 1
                      · (intro w hSw; (try dsimp only at hSw); go_simp) <;> (with_reducible rfl)
                      try simp only [Act.put, List.setIfInBounds_toArray, List.set_cons_zero, List.set_cons_succ]
                    rotate_left 1
                    focus
                      obtain ⟨_, _, _, _, _, oN⟩ := (HR4.out.nofr HFx21.out).cells
                      rw [HAE.out, HCC.out] at oN
                      go_simp
                      clear oN
                      clear hHeld
                      refine hK.out _ _ ?_ (fun hHeld => ?_)
                      · trivial
                      clear hK K
                      try simp only [Act.put, List.setIfInBounds_toArray, List.set_cons_zero, List.set_cons_succ]
                      refine wpAnyH_take (i := 15) (oi := ⟨some 185, _, _, _, _, _⟩) (v := ?_) rfl (by kernel_rfl) (by kernel_rfl) (by kernel_rfl) (fun _ _ _ h => h) (Or.inl ⟨by rfl, ?_⟩) (by assumption) ?_
                      rotate_left 1
                      · (intro w hSw; (try dsimp only at hSw); go_simp) <;> (with_reducible rfl)
                      try simp only [Act.put, List.setIfInBounds_toArray, List.set_cons_zero, List.set_cons_succ]
                      refine wpAnyH_ready (rs := [8]) (by kernel_rfl) (by simp) ?_
                      refine AllReadyH.cons (o := ⟨some 178, _, _, _, _, _⟩) rfl (fun K hK => ?_) AllReadyH.nil
                      refine step_appN rfl _ _ 46 rfl w4.heap.size 76 i0 _ 2 32 Try.underlying46 hi hz0 hz1 hz2 rfl (by decide) (.slice (some ⟨e1, 0, none⟩) 0 0) 0 [] rfl HOx21.out (some ⟨b, o, none⟩) cc i (ersc (R3.ers.take i)) rfl (by rw [ersc_len, List.length_take, Nat.min_eq_left (Nat.le_of_lt HIL.out)]) (HTK.out _ HFx21.out) (ersc_one _) (fun h => by cases h) ?q1 ?q2 HFx21.out.size ?_
                      case q1 => have := HN3.out.1; have := HIL.out; unfold maxLen; omega
                      case q2 => have := HN3.out.1; have := HIL.out; omega
                      intro v6 x22 ho6 hg6 hb6
                      simp only [Nat.zero_add, List.nil_append] at ho6
                      obtain ⟨A6, c6, rfl, _, _⟩ := own_form ho6
                      have HOx22 : Hid (x22.ownsRow w4.heap.size 76 2 (.slice A6 i c6) i (ersc (R3.ers.take i))) := ho6
                      have HFx22 : Hid (Fr NoBlk w4 x22) := HFx21.out.grown hg6 (fun k hk hlt => by have := (own_blk HOx21.out hk).1; omega)
                      try dsimp only
                      clear ho6 hg6 hb6
                      clear hHeld
                      refine hK.out _ _ ?_ (fun hHeld => ?_)
                      · trivial
                      clear hK K
                      try simp only [Act.put, List.setIfInBounds_toArray, List.set_cons_zero, List.set_cons_succ]
                  rotate_left 2
                  focus
                    obtain ⟨_, _, _, _, _, oN⟩ := (HR4.out.nofr HFx20.out).cells
                    rw [HAE.out, HCC.out] at oN
                    go_simp
                    clear oN
                    clear hHeld
                    refine hK.out _ _ ?_ (fun hHeld => ?_)
                    · trivial
                    clear hK K
                    try simp only [Act.put, List.setIfInBounds_toArray, List.set_cons_zero, List.set_cons_succ]
                    refine wpAnyH_take (i := 15) (oi := ⟨some 185, _, _, _, _, _⟩) (v := ?_) rfl (by kernel_rfl) (by kernel_rfl) (by kernel_rfl) (fun _ _ _ h => h) (Or.inl ⟨by rfl, ?_⟩) (by assumption) ?_
                    rotate_left 1
                    · (intro w hSw; (try dsimp only at hSw); go_simp) <;> (with_reducible rfl)
                    try simp only [Act.put, List.setIfInBounds_toArray, List.set_cons_zero, List.set_cons_succ]
                    refine wpAnyH_ready (rs := [1]) (by kernel_rfl) (by simp) ?_
                    refine AllReadyH.cons (o := ⟨some 171, _, _, _, _, _⟩) rfl (fun K hK => ?_) AllReadyH.nil
                    go_simp
                    obtain ⟨x21, hx21⟩ : ∃ x21, x21 = x20.alloc (.cells #[] 76) := ⟨_, rfl⟩
                    obtain ⟨e1, he1⟩ : ∃ e1, e1 = x20.heap.size := ⟨_, rfl⟩
                    have hfr : Fr NoBlk x20 x21 := by rw [hx21]; exact (Fr.refl _ _).alloc _
                    have HFx21 : Hid (Fr NoBlk w4 x21) := HFx20.out.trans hfr
                    have HOx21 : Hid (x21.ownsRow w4.heap.size 76 2 (.slice (some ⟨e1, 0, none⟩) 0 0) 0 []) := by show World.ownsRow _ _ _ _ _ _ _; rw [hx21, he1]; exact own_base (World.ownsRow_made x20 #[] 0 (Nat.le_refl _) (by decide) rfl) HFx20.out.size
                    rw [← hx21, ← he1]
                    clear hx21 hfr he1
                    clear hHeld
                    refine hK.out _ _ ?_ (fun hHeld => ?_)
                    · trivial
                    clear hK K
                    try simp only [Act.put, List.setIfInBounds_toArray, List.set_cons_zero, List.set_cons_succ]
                    refine wpAnyH_ready (rs := [8]) (by kernel_rfl) (by simp) ?_
                    refine AllReadyH.cons (o := ⟨some 178, _, _, _, _, _⟩) rfl (fun K hK => ?_) AllReadyH.nil
                    refine step_appN rfl _ _ 46 rfl w4.heap.size 76 i0 _ 2 32 Try.underlying46 hi hz0 hz1 hz2 rfl (by decide) (.slice (some ⟨e1, 0, none⟩) 0 0) 0 [] rfl HOx21.out (some ⟨b, o, none⟩) cc i (ersc (R3.ers.take i)) rfl (by rw [ersc_len, List.length_take, Nat.min_eq_left (Nat.le_of_lt HIL.out)]) (HTK.out _ HFx21.out) (ersc_one _) (fun h => by cases h) ?q1 ?q2 HFx21.out.size ?_
                    case q1 => have := HN3.out.1; have := HIL.out; unfold maxLen; omega
                    case q2 => have := HN3.out.1; have := HIL.out; omega
                    intro v6 x22 ho6 hg6 hb6
                    simp only [Nat.zero_add, List.nil_append] at ho6
                    obtain ⟨A6, c6, rfl, _, _⟩ := own_form ho6
                    have HOx22 : Hid (x22.ownsRow w4.heap.size 76 2 (.slice A6 i c6) i (ersc (R3.ers.take i))) := ho6
                    have HFx22 : Hid (Fr NoBlk w4 x22) := HFx21.out.grown hg6 (fun k hk hlt => by have := (own_blk HOx21.out hk).1; omega)
                    try dsimp only
                    clear ho6 hg6 hb6
                    clear hHeld
                    refine hK.out _ _ ?_ (fun hHeld => ?_)
                    · trivial
                    clear hK K
                    try simp only [Act.put, List.setIfInBounds_toArray, List.set_cons_zero, List.set_cons_succ]
                rotate_left 3
                focus
                  obtain ⟨_, _, _, _, _, oN⟩ := (HR4.out.nofr HFx20.out).cells
                  rw [HAE.out, HCC.out] at oN
                  go_simp
                  clear oN
                  clear hHeld
                  refine hK.out _ _ ?_ (fun hHeld => ?_)
                  · trivial
                  clear hK K
                  try simp only [Act.put, List.setIfInBounds_toArray, List.set_cons_zero, List.set_cons_succ]
                  refine wpAnyH_take (i := 15) (oi := ⟨some 185, _, _, _, _, _⟩) (v := ?_) rfl (by kernel_rfl) (by kernel_rfl) (by kernel_rfl) (fun _ _ _ h => h) (Or.inl ⟨by rfl, ?_⟩) (by assumption) ?_
                  rotate_left 1
                  · (intro w hSw; (try dsimp only at hSw); go_simp) <;> (with_reducible rfl)
                  try simp only [Act.put, List.setIfInBounds_toArray, List.set_cons_zero, List.set_cons_succ]
                  refine wpAnyH_ready (rs := [1, 5]) (by kernel_rfl) (by simp) ?_
                  refine AllReadyH.cons (o := ⟨some 171, _, _, _, _, _⟩) rfl (fun K hK => ?_) (AllReadyH.cons (o := ⟨some 175, _, _, _, _, _⟩) rfl (fun K hK => ?_) AllReadyH.nil)
                  focus
                    go_simp
                    obtain ⟨x21, hx21⟩ : ∃ x21, x21 = x20.alloc (.cells #[] 76) := ⟨_, rfl⟩
                    obtain ⟨e1, he1⟩ : ∃ e1, e1 = x20.heap.size := ⟨_, rfl⟩
                    have hfr : Fr NoBlk x20 x21 := by rw [hx21]; exact (Fr.refl _ _).alloc _
                    have HFx21 : Hid (Fr NoBlk w4 x21) := HFx20.out.trans hfr
                    have HOx21 : Hid (x21.ownsRow w4.heap.size 76 2 (.slice (some ⟨e1, 0, none⟩) 0 0) 0 []) := by show World.ownsRow _ _ _ _ _ _ _; rw [hx21, he1]; exact own_base (World.ownsRow_made x20 #[] 0 (Nat.le_refl _) (by decide) rfl) HFx20.out.size
                    rw [← hx21, ← he1]
                    clear hx21 hfr he1
                    clear hHeld
                    refine hK.out _ _ ?_ (fun hHeld => ?_)
                    · trivial
                    clear hK K
                    try simp only [Act.put, List.setIfInBounds_toArray, List.set_cons_zero, List.set_cons_succ]
                    refine wpAnyH_ready (rs := [5]) (by kernel_rfl) (by simp) ?_
                    refine AllReadyH.cons (o := ⟨some 175, _, _, _, _, _⟩) rfl (fun K hK => ?_) AllReadyH.nil
                    obtain ⟨_, _, _, _, _, oN⟩ := (HR4.out.nofr HFx21.out).cells
                    rw [HAE.out, HCC.out] at oN
                    go_simp
                    clear oN
                    clear hHeld
                    refine hK.out _ _ ?_ (fun hHeld => ?_)
                    · trivial
                    clear hK K
                    try simp only [Act.put, List.setIfInBounds_toArray, List.set_cons_zero, List.set_cons_succ]
                    refine wpAnyH_take (i := 7) (oi := ⟨some 177, _, _, _, _, _⟩) (v := ?_) rfl (by kernel_rfl) (by kernel_rfl) (by kernel_rfl) (fun _ _ _ h => h) (Or.inl ⟨by rfl, ?_⟩) (by assumption) ?_
                    rotate_left 1
                    · (intro w hSw; (try dsimp only at hSw); go_simp) <;> (with_reducible rfl)
                    try simp only [Act.put, List.setIfInBounds_toArray, List.set_cons_zero, List.set_cons_succ]
                    refine wpAnyH_ready (rs := [8]) (by kernel_rfl) (by simp) ?_
                    refine AllReadyH.cons (o := ⟨some 178, _, _, _, _, _⟩) rfl (fun K hK => ?_) AllReadyH.nil
                    refine step_appN rfl _ _ 46 rfl w4.heap.size 76 i0 _ 2 32 Try.underlying46 hi hz0 hz1 hz2 rfl (by decide) (.slice (some ⟨e1, 0, none⟩) 0 0) 0 [] rfl HOx21.out (some ⟨b, o, none⟩) cc i (ersc (R3.ers.take i)) rfl (by rw [ersc_len, List.length_take, Nat.min_eq_left (Nat.le_of_lt HIL.out)]) (HTK.out _ HFx21.out) (ersc_one _) (fun h => by cases h) ?q1 ?q2 HFx21.out.size ?_
                    case q1 => have := HN3.out.1; have := HIL.out; unfold maxLen; omega
                    case q2 => have := HN3.out.1; have := HIL.out; omega
                    intro v6 x22 ho6 hg6 hb6
                    simp only [Nat.zero_add, List.nil_append] at ho6
                    obtain ⟨A6, c6, rfl, _, _⟩ := own_form ho6
                    have HOx22 : Hid (x22.ownsRow w4.heap.size 76 2 (.slice A6 i c6) i (ersc (R3.ers.take i))) := ho6
                    have HFx22 : Hid (Fr NoBlk w4 x22) := HFx21.out.grown hg6 (fun k hk hlt => by have := (own_blk HOx21.out hk).1; omega)
                    try dsimp only
                    clear ho6 hg6 hb6
                    clear hHeld
                    refine hK.out _ _ ?_ (fun hHeld => ?_)
                    · trivial
                    clear hK K
                    try simp only [Act.put, List.setIfInBounds_toArray, List.set_cons_zero, List.set_cons_succ]
                  rotate_left 1
                  focus
                    obtain ⟨_, _, _, _, _, oN⟩ := (HR4.out.nofr HFx20.out).cells
                    rw [HAE.out, HCC.out] at oN
                    go_simp
                    clear oN
                    clear hHeld
                    refine hK.out _ _ ?_ (fun hHeld => ?_)
                    · trivial
                    clear hK K
                    try simp only [Act.put, List.setIfInBounds_toArray, List.set_cons_zero, List.set_cons_succ]
                    refine wpAnyH_take (i := 7) (oi := ⟨some 177, _, _, _, _, _⟩) (v := ?_) rfl (by kernel_rfl) (by kernel_rfl) (by kernel_rfl) (fun _ _ _ h => h) (Or.inl ⟨by rfl, ?_⟩) (by assumption) ?_
                    rotate_left 1
                    · (intro w hSw; (try dsimp only at hSw); go_simp) <;> (with_reducible rfl)
                    try simp only [Act.put, List.setIfInBounds_toArray, List.set_cons_zero, List.set_cons_succ]
                    refine wpAnyH_ready (rs := [1]) (by kernel_rfl) (by simp) ?_
                    refine AllReadyH.cons (o := ⟨some 171, _, _, _, _, _⟩) rfl (fun K hK => ?_) AllReadyH.nil
                    go_simp
                    obtain ⟨x21, hx21⟩ : ∃ x21, x21 = x20.alloc (.cells #[] 76) := ⟨_, rfl⟩
                    obtain ⟨e1, he1⟩ : ∃ e1, e1 = x20.heap.size := ⟨_, rfl⟩
                    have hfr : Fr NoBlk x20 x21 := by rw [hx21]; exact (Fr.refl _ _).alloc _
                    have HFx21 : Hid (Fr NoBlk w4 x21) := HFx20.out.trans hfr
                    have HOx21 : Hid (x21.ownsRow w4.heap.size 76 2 (.slice (some ⟨e1, 0, none⟩) 0 0) 0 []) := by show World.ownsRow _ _ _ _ _ _ _; rw [hx21, he1]; exact own_base (World.ownsRow_made x20 #[] 0 (Nat.le_refl _) (by decide) rfl) HFx20.out.size
                    rw [← hx21, ← he1]
                    clear hx21 hfr he1
                    clear hHeld
                    refine hK.out _ _ ?_ (fun hHeld => ?_)
                    · trivial
                    clear hK K
                    try simp only [Act.put, List.setIfInBounds_toArray, List.set_cons_zero, List.set_cons_succ]
                    refine wpAnyH_ready (rs := [8]) (by kernel_rfl) (by simp) ?_
                    refine AllReadyH.cons (o := ⟨some 178, _, _, _, _, _⟩) rfl (fun K hK => ?_) AllReadyH.nil
                    refine step_appN rfl _ _ 46 rfl w4.heap.size 76 i0 _ 2 32 Try.underlying46 hi hz0 hz1 hz2 rfl (by decide) (.slice (some ⟨e1, 0, none⟩) 0 0) 0 [] rfl HOx21.out (some ⟨b, o, none⟩) cc i (ersc (R3.ers.take i)) rfl (by rw [ersc_len, List.length_take, Nat.min_eq_left (Nat.le_of_lt HIL.out)]) (HTK.out _ HFx21.out) (ersc_one _) (fun h => by cases h) ?q1 ?q2 HFx21.out.size ?_
                    case q1 => have := HN3.out.1; have := HIL.out; unfold maxLen; omega
                    case q2 => have := HN3.out.1; have := HIL.out; omega
                    intro v6 x22 ho6 hg6 hb6
                    simp only [Nat.zero_add, List.nil_append] at ho6
                    obtain ⟨A6, c6, rfl, _, _⟩ := own_form ho6
                    have HOx22 : Hid (x22.ownsRow w4.heap.size 76 2 (.slice A6 i c6) i (ersc (R3.ers.take i))) := ho6
                    have HFx22 : Hid (Fr NoBlk w4 x22) := HFx21.out.grown hg6 (fun k hk hlt => by have := (own_blk HOx21.out hk).1; omega)
                    try dsimp only
                    clear ho6 hg6 hb6
                    clear hHeld
                    refine hK.out _ _ ?_ (fun hHeld => ?_)
                    · trivial
                    clear hK K
                    try simp only [Act.put, List.setIfInBounds_toArray, List.set_cons_zero, List.set_cons_succ]
                all_goals
                  refine wpAnyH_ready (rs := [16]) (by kernel_rfl) (by simp) ?_
                  refine AllReadyH.cons (o := ⟨some 186, _, _, _, _, _⟩) rfl (fun K hK => ?_) AllReadyH.nil
                  refine step_appN rfl _ _ 46 rfl w4.heap.size 76 i0 _ 2 32 Try.underlying46 hi hz0 hz1 hz2 rfl (by decide) (.slice A6 i c6) i (ersc (R3.ers.take i)) rfl HOx22.out (some ⟨b, o + (i + 1) * 2, none⟩) (cc - (i + 1)) (R3.ers.length - (i + 1)) (ersc (R3.ers.drop (i + 1))) rfl (by rw [ersc_len, List.length_drop]) (HDP.out _ HFx22.out) (ersc_one _) (fun h => by cases h) ?q1 ?q2 HFx22.out.size ?_
                  case q1 => have := HN3.out.1; have := HIL.out; unfold maxLen; omega
                  case q2 => have := HN3.out.1; have := HIL.out; omega
                  intro v9 x23 ho9 hg9 hb9
                  obtain ⟨A9, c9, rfl, _, _⟩ := own_form ho9
                  have HFx23 : Hid (Fr NoBlk w4 x23) := HFx22.out.grown hg9 (fun k hk hlt => by have := (own_blk HOx22.out hk).1; omega)
                  have HOZ : Hid (x23.ownsRow w4.heap.size 76 2 (.slice A9 (i + (R3.ers.length - (i + 1))) c9) (i + (R3.ers.length - (i + 1))) (ersc (R3.ers.eraseIdx i))) := by
                    show World.ownsRow _ _ _ _ _ _ _
                    rw [← ersc_erase, ersc_take, ersc_drop]
                    exact ho9
                  have HS := Lib.hid ((HR4.out.nofr HFx23.out).put5 (M' := fun k => M3 k ∨ (Value.slice A9 (i + (R3.ers.length - (i + 1))) c9).ownBlock = some k) (xs := R3.ers.eraseIdx i) HOZ.out (by have := HIL.out; rw [List.length_eraseIdx, if_pos HIL.out]; omega) (fun k hk => .inl hk) (fun k hk => .inr hk) (fun x hx => ((HR4.out.nofr HFx23.out).ed x (List.mem_of_mem_eraseIdx hx)).mono fun _ hk => .inl hk) (by have := HN3.out.1; have := HIL.out; omega) (fun e => by
                    rcases e with e | e
                    · exact HR4.out.mm e
                    · have := (own_blk HOZ.out e).1; have := HR4.out.bk.lt; omega) (fun k hk => by
                    rcases hk with hk | hk
                    · exact (HR4.out.nofr HFx23.out).ml k hk
                    · exact (own_blk HOZ.out hk).2))
                  obtain ⟨_, _, _, _, _, oN⟩ := (HR4.out.nofr HFx23.out).cells
                  have fN := (HR4.out.nofr HFx23.out).bk.free 5
                  clear ho9 hg9 hb9
                  clear hHeld
                  refine hK.out _ _ ?_ (fun hHeld => ?_)
                  · trivial
                  clear hK K
                  try simp only [Act.put, List.setIfInBounds_toArray, List.set_cons_zero, List.set_cons_succ]
                  refine wpAnyH_take (i := 17) (oi := ⟨some 187, _, _, _, _, _⟩) (v := ?_) rfl (by kernel_rfl) (by kernel_rfl) (by kernel_rfl) (fun _ _ _ h => h) (Or.inl ⟨by rfl, ?_⟩) (by assumption) ?_
                  rotate_left 1
                  · (intro w hSw; (try dsimp only at hSw); go_simp) <;> (with_reducible rfl)
                  try simp only [Act.put, List.setIfInBounds_toArray, List.set_cons_zero, List.set_cons_succ]
                  refine wpAnyH_take (i := 18) (oi := ⟨some 188, _, _, _, _, _⟩) (v := ?_) rfl (by kernel_rfl) (by kernel_rfl) (by kernel_rfl) (fun _ _ _ h => h) (Or.inl ⟨by rfl, ?_⟩) (by assumption) ?_
                  rotate_left 1
                  · (intro w hSw; (try dsimp only at hSw); go_simp) <;> (with_reducible rfl)
                  try simp only [Act.put, List.setIfInBounds_toArray, List.set_cons_zero, List.set_cons_succ]
                  refine wpAnyH_ready (rs := [19]) (by kernel_rfl) (by simp) ?_
                  refine AllReadyH.cons (o := ⟨none, _, _, _, _, _⟩) rfl (fun K hK => ?_) AllReadyH.nil
                  go_simp
                  clear hHeld
                  refine hK.out _ _ ?_ (fun hHeld => ?_)
                  · trivial
                  clear hK K
                  try simp only [Act.put, List.setIfInBounds_toArray, List.set_cons_zero, List.set_cons_succ]
                  refine wpAnyH_done (by kernel_rfl) ?_ _
                  clear hHeld fN oN
                  try go_wp2_with fail
                  go_meet
                  exact ⟨rfl, _, _, _, (fun k hk => hk.imp id fun h => (own_blk HOZ.out h).1), (fun k hk => .inl hk), HS.out.1, (HFx23.out.mono fun _ _ h => h.elim).trans HS.out.2⟩
            case rest =>
              obtain ⟨rfl, M5, A5, c5, HM5, HM35, HR5, HF5⟩ := hcut
              obtain ⟨nx, hnx⟩ : ∃ nx, nx = (R3.ex + 1) % 2 ^ 64 := ⟨_, rfl⟩
              have HNX := Lib.hid hnx
              have hx64 := HR5.out.nums.2.2.2
              dsimp only at hx64
              have e2 : IntKind.u64.wrap ((R3.ex : Int) + 1) = (nx : Int) := by
                simp only [IntKind.wrap, IntKind.bits, IntKind.signed]
                simp
                omega
              have e3 : ((R3.ex : Int) + 1) % 18446744073709551616 = (nx : Int) := by omega
              have n1 := HR5.out.nums
              have hz := HR5.out.put (M' := M5) (R' := { R3 with ae := A5, ce := c5, ers := R3.ers.eraseIdx i, ex := nx }) 3 (.int .u64 (nx : Int)) (by unfold rka; simp only [List.setIfInBounds_toArray, List.set_cons_zero, List.set_cons_succ]) (fun _ h => h) HR5.out.mm HR5.out.ml (.inl rfl) (.inl rfl) ⟨n1.1, n1.2.1, n1.2.2.1, by show nx < _; rw [hnx]; omega⟩
              have hff := HF5.out.trans hz.2
              have c3 := HR5.out.cells.2.2.2.1
              have f3 := HR5.out.bk.free 3
              dsimp only at c3
              have HZ := Lib.hid hz.1
              have HFF := Lib.hid hff
              have HML : Hid (waitAt (wc.setCell ⟨m, 3, none⟩ (.int .u64 (nx : Int))) m < waitAt wr m) := by
                show _ < _
                rw [HEZ.out]
                unfold waitAt
                rw [HZ.out.cells.2.2.2.2.2]
                have := HIL.out
                show (R3.ers.eraseIdx i).length < _
                rw [List.length_eraseIdx, if_pos HIL.out]
                omega
              have HDR5 : Hid (DrV (rv R2) ((qs ++ [x.2]).map (·.2.2)) (rv { R3 with ae := A5, ce := c5, ers := R3.ers.eraseIdx i, ex := nx })) := HDR.out.next HX.out.1 HX.out.2 HNX.out
              have HN5 : Hid ((R3.ers.eraseIdx i).length + (qs ++ [x.2]).length ≤ 1000 ∧ nx ≤ R2.ex + (qs ++ [x.2]).length) := by
                have := HIL.out
                have := HN3.out
                refine ⟨?_, ?_⟩
                · rw [List.length_eraseIdx, if_pos HIL.out, List.length_append, List.length_singleton]
                  omega
                · rw [List.length_append, List.length_singleton, HNX.out]
                  omega
              clear hz hff n1 hnx hx64 hil
              go_wp2_with fail
              go_roundw
              case rel => exact ⟨M5, _, A4, c4, qs ++ [x.2], by rw [List.length_append]; rfl, HDR5, HN5, (fun k hk => by
                rcases HM5.out k hk with h | h
                · exact HM3.out k h
                · have := HF4.out.size; exact .inr (by omega)), (fun k hk hm => by
                rw [List.length_append, List.length_singleton] at hk
                rcases HM5.out k hm with h | h
                · exact HCN4.out k hk h
                · have := (own_blk HC4.out hk).2; omega), HZ, HF4.out.trans HFF.out, by
                show World.ownsRow _ _ _ _ _ _ _
                rw [List.length_append]
                exact own_fr HC4.out HFF.out (fun k hk e => by have := (own_blk HC4.out hk).1; have := HMB.out; have := HGB.out; omega), (fun q hq => ((HQ4.out q hq).fr HFF.out fun k hk e => HR4.out.mm (e ▸ hk)).mono HM35.out)⟩
              case measure => exact HML.out
    go_wp2_with fail
    go_loopw [83] (fun _ wr => ∃ (k : Nat) (a : Option Addr), k ≤ Rm.outs.length ∧ Hid ((∀ i, i < k → (Rm.ba + i) % 2 ^ 64 ≤ P.ak)) ∧ Hid (RkIn M wr m { Rm with ao := a, co := Rm.co - k, outs := Rm.outs.drop k, ba := (Rm.ba + k) % 2 ^ 64 }) ∧ Hid (Fr (fun k => k = m) W wr) ∧ Hid (Bk wr gb 32 (pka P)) ∧ Hid (wr.ownsRow W.heap.size 30 1 (.slice (some ⟨gc, 0, none⟩) 0 0) 0 [])) (fun _ wr => lenAt wr m)
    case atStart => exact ⟨0, Rm.ao, Nat.zero_le _, (fun i h => by omega), by have := HRd.out.nums.2.2.1; show RkIn _ _ _ _; simpa [Nat.mod_eq_of_lt this] using HRd.out, HFd.out, HBd.out, HCd.out⟩
    case round =>
      obtain ⟨k, a, hk, HKA, HRr, HFr, HBr, HCr⟩ := hrel
      obtain ⟨Rk1, hRk⟩ : ∃ Rk1 : Rk, Rk1 = { Rm with ao := a, co := Rm.co - k, outs := Rm.outs.drop k, ba := (Rm.ba + k) % 2 ^ 64 } := ⟨_, rfl⟩
      have HRK := Lib.hid hRk
      rw [← hRk] at HRr
      clear hRk
      obtain ⟨n, hn⟩ : ∃ n, n = Rk1.outs.length := ⟨_, rfl⟩
      have HNN : Hid (n = Rm.outs.length - k ∧ Rk1.outs = Rm.outs.drop k) := ⟨by rw [hn, HRK.out, List.length_drop], by rw [HRK.out]⟩
      have HSKwr : Hid (∀ w', Fr NoBlk wr w' → ((w'.cell? ⟨gb, 0, none⟩ = some (.int .u64 (P.ep : Int)) ∧ w'.cell? ⟨gb, 1, none⟩ = some (.int .u64 (P.pe : Int)) ∧ w'.cell? ⟨gb, 2, none⟩ = some (.int .u64 (P.sq : Int)) ∧ w'.cell? ⟨gb, 3, none⟩ = some (.int .u64 (P.ak : Int)) ∧ w'.cell? ⟨gb, 4, none⟩ = some (.slice P.d.1 P.d.2.2.length P.d.2.1)) ∧ (w'.cell? ⟨m, 0, none⟩ = some (.int .u64 (Rk1.ep : Int)) ∧ w'.cell? ⟨m, 1, none⟩ = some (.int .u64 (Rk1.pe : Int)) ∧ w'.cell? ⟨m, 2, none⟩ = some (.int .u64 (Rk1.ba : Int)) ∧ w'.cell? ⟨m, 3, none⟩ = some (.int .u64 (Rk1.ex : Int)) ∧ w'.cell? ⟨m, 4, none⟩ = some (.slice Rk1.ao Rk1.outs.length Rk1.co) ∧ w'.cell? ⟨m, 5, none⟩ = some (.slice Rk1.ae Rk1.ers.length Rk1.ce)))) := fun w' hf => by
        have hb := HBr.out.fr hf (fun h => h)
        exact ⟨⟨hb.cell 0, hb.cell 1, hb.cell 2, hb.cell 3, hb.cell 4⟩, (HRr.out.nofr hf).cells⟩
      have hnr : Rk1.outs.length = n := hn.symm
      have HNL := Lib.hid hnr
      rw [hnr] at HSKwr
      clear hn hnr
      by_cases hn0 : n = 0
      · have g1 : decide ((0 : Int) < (n : Int)) = false := by simp; omega
        have g2 : ¬ 0 < n := by omega
        have HSTOP : Hid (k = Rm.outs.length ∨ P.ak < (Rm.ba + k) % 2 ^ 64) := .inl (by have := HNN.out.1; omega)
        clear hn0
        go_upto_region 11 with fail
        refine wp_region_held_drew (S := fun w' => Fr NoBlk wr w') (by kernel_rfl) (by exact (Fr.refl NoBlk wr).drew) (fun hHeld => ?_)
        refine wpAnyH_take (i := 0) (oi := ⟨some 69, _, _, _, _, _⟩) (v := ?_) rfl (by kernel_rfl) (by kernel_rfl) (by kernel_rfl) (fun _ _ _ h => h) (Or.inl ⟨by rfl, ?_⟩) (by assumption) ?_
        rotate_left 1
        · (intro w hSw; (try dsimp only at hSw); obtain ⟨⟨p0, p1, p2, p3, p4⟩, r0, r1, r2, r3, r4, r5⟩ := HSKwr.out _ hSw; go_simp) <;> (with_reducible rfl)
        try simp only [Act.put, List.setIfInBounds_toArray, List.set_cons_zero, List.set_cons_succ]
        refine wpAnyH_take (i := 1) (oi := ⟨some 70, _, _, _, _, _⟩) (v := ?_) rfl (by kernel_rfl) (by kernel_rfl) (by kernel_rfl) (fun _ _ _ h => h) (Or.inl ⟨by rfl, ?_⟩) (by assumption) ?_
        rotate_left 1
        · (intro w hSw; (try dsimp only at hSw); obtain ⟨⟨p0, p1, p2, p3, p4⟩, r0, r1, r2, r3, r4, r5⟩ := HSKwr.out _ hSw; go_simp) <;> (with_reducible rfl)
        try simp only [Act.put, List.setIfInBounds_toArray, List.set_cons_zero, List.set_cons_succ]
        refine wpAnyH_take (i := 2) (oi := ⟨some 71, _, _, _, _, _⟩) (v := ?_) rfl (by kernel_rfl) (by kernel_rfl) (by kernel_rfl) (fun _ _ _ h => h) (Or.inl ⟨by rfl, ?_⟩) (by assumption) ?_
        rotate_left 1
        · (intro w hSw; (try dsimp only at hSw); obtain ⟨⟨p0, p1, p2, p3, p4⟩, r0, r1, r2, r3, r4, r5⟩ := HSKwr.out _ hSw; go_simp) <;> (with_reducible rfl)
        try simp only [Act.put, List.setIfInBounds_toArray, List.set_cons_zero, List.set_cons_succ]
        refine wpAnyH_take (i := 3) (oi := ⟨some 72, _, _, _, _, _⟩) (v := ?_) rfl (by kernel_rfl) (by kernel_rfl) (by kernel_rfl) (fun _ _ _ h => h) (Or.inl ⟨by rfl, ?_⟩) (by assumption) ?_
        rotate_left 1
        · (intro w hSw; (try dsimp only at hSw); obtain ⟨⟨p0, p1, p2, p3, p4⟩, r0, r1, r2, r3, r4, r5⟩ := HSKwr.out _ hSw; go_simp) <;> (with_reducible rfl)
        try simp only [Act.put, List.setIfInBounds_toArray, List.set_cons_zero, List.set_cons_succ]
        refine wpAnyH_take (i := 4) (oi := ⟨some 73, _, _, _, _, _⟩) (v := ?_) rfl (by kernel_rfl) (by kernel_rfl) (by kernel_rfl) (fun _ _ _ h => h) (Or.inl ⟨by rfl, ?_⟩) (by assumption) ?_
        rotate_left 1
        · (intro w hSw; (try dsimp only at hSw); obtain ⟨⟨p0, p1, p2, p3, p4⟩, r0, r1, r2, r3, r4, r5⟩ := HSKwr.out _ hSw; go_simp) <;> (with_reducible rfl)
        try simp only [Act.put, List.setIfInBounds_toArray, List.set_cons_zero, List.set_cons_succ]
        refine wpAnyH_take (i := 5) (oi := ⟨some 74, _, _, _, _, _⟩) (v := ?_) rfl (by kernel_rfl) (by kernel_rfl) (by kernel_rfl) (fun _ _ _ h => h) (Or.inl ⟨by rfl, ?_⟩) (by assumption) ?_
        rotate_left 1
        · (intro w hSw; (try dsimp only at hSw); obtain ⟨⟨p0, p1, p2, p3, p4⟩, r0, r1, r2, r3, r4, r5⟩ := HSKwr.out _ hSw; go_simp) <;> (with_reducible rfl)
        try simp only [Act.put, List.setIfInBounds_toArray, List.set_cons_zero, List.set_cons_succ]
        refine wpAnyH_take (i := 6) (oi := ⟨some 75, _, _, _, _, _⟩) (v := ?_) rfl (by kernel_rfl) (by kernel_rfl) (by kernel_rfl) (fun _ _ _ h => h) (Or.inl ⟨by rfl, ?_⟩) (by assumption) ?_
        rotate_left 1
        · (intro w hSw; (try dsimp only at hSw); obtain ⟨⟨p0, p1, p2, p3, p4⟩, r0, r1, r2, r3, r4, r5⟩ := HSKwr.out _ hSw; go_simp) <;> (with_reducible rfl)
        try simp only [Act.put, List.setIfInBounds_toArray, List.set_cons_zero, List.set_cons_succ]
        refine wpAnyH_take (i := 7) (oi := ⟨some 76, _, _, _, _, _⟩) (v := undef) rfl (by kernel_rfl) (by kernel_rfl) (by kernel_rfl) (fun _ _ _ h => h) (Or.inr ⟨by rfl, rfl⟩) (by assumption) ?_
        try simp only [Act.put, List.setIfInBounds_toArray, List.set_cons_zero, List.set_cons_succ]
        refine wpAnyH_take (i := 8) (oi := ⟨some 77, _, _, _, _, _⟩) (v := undef) rfl (by kernel_rfl) (by kernel_rfl) (by kernel_rfl) (fun _ _ _ h => h) (Or.inr ⟨by rfl, rfl⟩) (by assumption) ?_
        try simp only [Act.put, List.setIfInBounds_toArray, List.set_cons_zero, List.set_cons_succ]
        refine wpAnyH_take (i := 9) (oi := ⟨some 78, _, _, _, _, _⟩) (v := undef) rfl (by kernel_rfl) (by kernel_rfl) (by kernel_rfl) (fun _ _ _ h => h) (Or.inr ⟨by rfl, rfl⟩) (by assumption) ?_
        try simp only [Act.put, List.setIfInBounds_toArray, List.set_cons_zero, List.set_cons_succ]
        refine wpAnyH_take (i := 10) (oi := ⟨some 79, _, _, _, _, _⟩) (v := undef) rfl (by kernel_rfl) (by kernel_rfl) (by kernel_rfl) (fun _ _ _ h => h) (Or.inr ⟨by rfl, rfl⟩) (by assumption) ?_
        try simp only [Act.put, List.setIfInBounds_toArray, List.set_cons_zero, List.set_cons_succ]
        refine wpAnyH_take (i := 11) (oi := ⟨some 80, _, _, _, _, _⟩) (v := undef) rfl (by kernel_rfl) (by kernel_rfl) (by kernel_rfl) (fun _ _ _ h => h) (Or.inr ⟨by rfl, rfl⟩) (by assumption) ?_
        try simp only [Act.put, List.setIfInBounds_toArray, List.set_cons_zero, List.set_cons_succ]
        refine wpAnyH_take (i := 12) (oi := ⟨some 81, _, _, _, _, _⟩) (v := undef) rfl (by kernel_rfl) (by kernel_rfl) (by kernel_rfl) (fun _ _ _ h => h) (Or.inr ⟨by rfl, rfl⟩) (by assumption) ?_
        try simp only [Act.put, List.setIfInBounds_toArray, List.set_cons_zero, List.set_cons_succ]
        refine wpAnyH_take (i := 13) (oi := ⟨some 82, _, _, _, _, _⟩) (v := undef) rfl (by kernel_rfl) (by kernel_rfl) (by kernel_rfl) (fun _ _ _ h => h) (Or.inr ⟨by rfl, rfl⟩) (by assumption) ?_
        try simp only [Act.put, List.setIfInBounds_toArray, List.set_cons_zero, List.set_cons_succ]
        refine wpAnyH_take (i := 14) (oi := ⟨some 83, _, _, _, _, _⟩) (v := ?_) rfl (by kernel_rfl) (by kernel_rfl) (by kernel_rfl) (fun _ _ _ h => h) (Or.inl ⟨by rfl, ?_⟩) (by assumption) ?_
        rotate_left 1
        · (intro w hSw; (try dsimp only at hSw); obtain ⟨⟨p0, p1, p2, p3, p4⟩, r0, r1, r2, r3, r4, r5⟩ := HSKwr.out _ hSw; go_simp) <;> (with_reducible rfl)
        try simp only [Act.put, List.setIfInBounds_toArray, List.set_cons_zero, List.set_cons_succ]
        refine wpAnyH_done (by kernel_rfl) ?_ _
        clear hHeld
        obtain ⟨ws, hws⟩ : ∃ ws, ws = wr.drew := ⟨_, rfl⟩
        have HFws : Hid (Fr NoBlk wr ws) := by show Fr _ _ _; rw [hws]; exact (Fr.refl NoBlk _).drew
        rw [← hws]
        clear hws
        have HBs : Hid (Bk ws gb 32 (pka P)) := HBr.out.fr HFws.out (fun h => h)
        have HRs : Hid (RkIn M ws m Rk1) := HRr.out.nofr HFws.out
        have HFs : Hid (Fr (fun k => k = m) W ws) := HFr.out.trans (HFws.out.mono fun _ _ h => h.elim)
        have HCs : Hid (ws.ownsRow W.heap.size 30 1 (.slice (some ⟨gc, 0, none⟩) 0 0) 0 []) := own_fr HCr.out HFws.out (fun _ _ h => h)
        have HACK : Hid (AckV (metV (rv R) P.ep) P.ak (rv Rk1)) := by
          refine ⟨k, ?_, ?_, ?_, ?_⟩
          · rw [← HRM.out.1]
            show k ≤ (Rm.outs.map _).length
            rw [List.length_map]
            exact hk
          · rw [← HRM.out.1]
            exact HKA.out
          · rw [← HRM.out.1]
            show k = (Rm.outs.map _).length ∨ _
            rw [List.length_map]
            exact HSTOP.out
          · rw [← HRM.out.1, HRK.out]
            show Rv.mk _ _ _ _ ((Rm.outs.drop k).map _) _ = Rv.mk _ _ _ _ ((Rm.outs.map _).drop k) _
            rw [List.map_drop]
            rfl
        have HE1 : Hid (Rk1.ers.length < 1000 ∧ Rk1.ex < 2 ^ 63) := by rw [HRK.out]; exact ⟨HRM.out.2.1, HRM.out.2.2⟩
        clear HSKwr HRr HFr HBr HCr HFws HKA HSTOP HNN HNL
        go_wp2_with fail
        go_meet
        exact ⟨rfl, Rk1, HACK, HE1, HRs, HFs, HBs, HCs⟩
      · by_cases hba : Rk1.ba ≤ P.ak
        · have g1 : decide ((0 : Int) < (n : Int)) = true := by simp; omega
          have g2 : 0 < n := by omega
          have g3 : decide (Rk1.ba ≤ P.ak) = true := by simp; omega
          have g4 : decide ((Rk1.ba : Int) ≤ (P.ak : Int)) = true := by simp; omega
          have HBA := Lib.hid hba
          clear hba
          go_upto_region 11 with fail
          refine wp_region_held_drew (S := fun w' => Fr NoBlk wr w') (by kernel_rfl) (by exact (Fr.refl NoBlk wr).drew) (fun hHeld => ?_)
          refine wpAnyH_take (i := 0) (oi := ⟨some 69, _, _, _, _, _⟩) (v := ?_) rfl (by kernel_rfl) (by kernel_rfl) (by kernel_rfl) (fun _ _ _ h => h) (Or.inl ⟨by rfl, ?_⟩) (by assumption) ?_
          rotate_left 1
          · (intro w hSw; (try dsimp only at hSw); obtain ⟨⟨p0, p1, p2, p3, p4⟩, r0, r1, r2, r3, r4, r5⟩ := HSKwr.out _ hSw; go_simp) <;> (with_reducible rfl)
          try simp only [Act.put, List.setIfInBounds_toArray, List.set_cons_zero, List.set_cons_succ]
          refine wpAnyH_take (i := 1) (oi := ⟨some 70, _, _, _, _, _⟩) (v := ?_) rfl (by kernel_rfl) (by kernel_rfl) (by kernel_rfl) (fun _ _ _ h => h) (Or.inl ⟨by rfl, ?_⟩) (by assumption) ?_
          rotate_left 1
          · (intro w hSw; (try dsimp only at hSw); obtain ⟨⟨p0, p1, p2, p3, p4⟩, r0, r1, r2, r3, r4, r5⟩ := HSKwr.out _ hSw; go_simp) <;> (with_reducible rfl)
          try simp only [Act.put, List.setIfInBounds_toArray, List.set_cons_zero, List.set_cons_succ]
          refine wpAnyH_take (i := 2) (oi := ⟨some 71, _, _, _, _, _⟩) (v := ?_) rfl (by kernel_rfl) (by kernel_rfl) (by kernel_rfl) (fun _ _ _ h => h) (Or.inl ⟨by rfl, ?_⟩) (by assumption) ?_
          rotate_left 1
          · (intro w hSw; (try dsimp only at hSw); obtain ⟨⟨p0, p1, p2, p3, p4⟩, r0, r1, r2, r3, r4, r5⟩ := HSKwr.out _ hSw; go_simp) <;> (with_reducible rfl)
          try simp only [Act.put, List.setIfInBounds_toArray, List.set_cons_zero, List.set_cons_succ]
          refine wpAnyH_take (i := 3) (oi := ⟨some 72, _, _, _, _, _⟩) (v := ?_) rfl (by kernel_rfl) (by kernel_rfl) (by kernel_rfl) (fun _ _ _ h => h) (Or.inl ⟨by rfl, ?_⟩) (by assumption) ?_
          rotate_left 1
          · (intro w hSw; (try dsimp only at hSw); obtain ⟨⟨p0, p1, p2, p3, p4⟩, r0, r1, r2, r3, r4, r5⟩ := HSKwr.out _ hSw; go_simp) <;> (with_reducible rfl)
          try simp only [Act.put, List.setIfInBounds_toArray, List.set_cons_zero, List.set_cons_succ]
          refine wpAnyH_take (i := 4) (oi := ⟨some 73, _, _, _, _, _⟩) (v := ?_) rfl (by kernel_rfl) (by kernel_rfl) (by kernel_rfl) (fun _ _ _ h => h) (Or.inl ⟨by rfl, ?_⟩) (by assumption) ?_
          rotate_left 1
          · (intro w hSw; (try dsimp only at hSw); obtain ⟨⟨p0, p1, p2, p3, p4⟩, r0, r1, r2, r3, r4, r5⟩ := HSKwr.out _ hSw; go_simp) <;> (with_reducible rfl)
          try simp only [Act.put, List.setIfInBounds_toArray, List.set_cons_zero, List.set_cons_succ]
          refine wpAnyH_take (i := 5) (oi := ⟨some 74, _, _, _, _, _⟩) (v := ?_) rfl (by kernel_rfl) (by kernel_rfl) (by kernel_rfl) (fun _ _ _ h => h) (Or.inl ⟨by rfl, ?_⟩) (by assumption) ?_
          rotate_left 1
          · (intro w hSw; (try dsimp only at hSw); obtain ⟨⟨p0, p1, p2, p3, p4⟩, r0, r1, r2, r3, r4, r5⟩ := HSKwr.out _ hSw; go_simp) <;> (with_reducible rfl)
          try simp only [Act.put, List.setIfInBounds_toArray, List.set_cons_zero, List.set_cons_succ]
          refine wpAnyH_take (i := 6) (oi := ⟨some 75, _, _, _, _, _⟩) (v := ?_) rfl (by kernel_rfl) (by kernel_rfl) (by kernel_rfl) (fun _ _ _ h => h) (Or.inl ⟨by rfl, ?_⟩) (by assumption) ?_
          rotate_left 1
          · (intro w hSw; (try dsimp only at hSw); obtain ⟨⟨p0, p1, p2, p3, p4⟩, r0, r1, r2, r3, r4, r5⟩ := HSKwr.out _ hSw; go_simp) <;> (with_reducible rfl)
          try simp only [Act.put, List.setIfInBounds_toArray, List.set_cons_zero, List.set_cons_succ]
          refine wpAnyH_take (i := 7) (oi := ⟨some 76, _, _, _, _, _⟩) (v := ?_) rfl (by kernel_rfl) (by kernel_rfl) (by kernel_rfl) (fun _ _ _ h => h) (Or.inl ⟨by rfl, ?_⟩) (by assumption) ?_
          rotate_left 1
          · (intro w hSw; (try dsimp only at hSw); obtain ⟨⟨p0, p1, p2, p3, p4⟩, r0, r1, r2, r3, r4, r5⟩ := HSKwr.out _ hSw; go_simp) <;> (with_reducible rfl)
          try simp only [Act.put, List.setIfInBounds_toArray, List.set_cons_zero, List.set_cons_succ]
          refine wpAnyH_take (i := 8) (oi := ⟨some 77, _, _, _, _, _⟩) (v := ?_) rfl (by kernel_rfl) (by kernel_rfl) (by kernel_rfl) (fun _ _ _ h => h) (Or.inl ⟨by rfl, ?_⟩) (by assumption) ?_
          rotate_left 1
          · (intro w hSw; (try dsimp only at hSw); obtain ⟨⟨p0, p1, p2, p3, p4⟩, r0, r1, r2, r3, r4, r5⟩ := HSKwr.out _ hSw; go_simp) <;> (with_reducible rfl)
          try simp only [Act.put, List.setIfInBounds_toArray, List.set_cons_zero, List.set_cons_succ]
          refine wpAnyH_take (i := 9) (oi := ⟨some 78, _, _, _, _, _⟩) (v := ?_) rfl (by kernel_rfl) (by kernel_rfl) (by kernel_rfl) (fun _ _ _ h => h) (Or.inl ⟨by rfl, ?_⟩) (by assumption) ?_
          rotate_left 1
          · (intro w hSw; (try dsimp only at hSw); obtain ⟨⟨p0, p1, p2, p3, p4⟩, r0, r1, r2, r3, r4, r5⟩ := HSKwr.out _ hSw; go_simp) <;> (with_reducible rfl)
          try simp only [Act.put, List.setIfInBounds_toArray, List.set_cons_zero, List.set_cons_succ]
          refine wpAnyH_take (i := 10) (oi := ⟨some 79, _, _, _, _, _⟩) (v := ?_) rfl (by kernel_rfl) (by kernel_rfl) (by kernel_rfl) (fun _ _ _ h => h) (Or.inl ⟨by rfl, ?_⟩) (by assumption) ?_
          rotate_left 1
          · (intro w hSw; (try dsimp only at hSw); obtain ⟨⟨p0, p1, p2, p3, p4⟩, r0, r1, r2, r3, r4, r5⟩ := HSKwr.out _ hSw; go_simp) <;> (with_reducible rfl)
          try simp only [Act.put, List.setIfInBounds_toArray, List.set_cons_zero, List.set_cons_succ]
          refine wpAnyH_take (i := 11) (oi := ⟨some 80, _, _, _, _, _⟩) (v := ?_) rfl (by kernel_rfl) (by kernel_rfl) (by kernel_rfl) (fun _ _ _ h => h) (Or.inl ⟨by rfl, ?_⟩) (by assumption) ?_
          rotate_left 1
          · (intro w hSw; (try dsimp only at hSw); obtain ⟨⟨p0, p1, p2, p3, p4⟩, r0, r1, r2, r3, r4, r5⟩ := HSKwr.out _ hSw; go_simp) <;> (with_reducible rfl)
          try simp only [Act.put, List.setIfInBounds_toArray, List.set_cons_zero, List.set_cons_succ]
          refine wpAnyH_take (i := 12) (oi := ⟨some 81, _, _, _, _, _⟩) (v := ?_) rfl (by kernel_rfl) (by kernel_rfl) (by kernel_rfl) (fun _ _ _ h => h) (Or.inl ⟨by rfl, ?_⟩) (by assumption) ?_
          rotate_left 1
          · (intro w hSw; (try dsimp only at hSw); obtain ⟨⟨p0, p1, p2, p3, p4⟩, r0, r1, r2, r3, r4, r5⟩ := HSKwr.out _ hSw; go_simp) <;> (with_reducible rfl)
          try simp only [Act.put, List.setIfInBounds_toArray, List.set_cons_zero, List.set_cons_succ]
          refine wpAnyH_take (i := 13) (oi := ⟨some 82, _, _, _, _, _⟩) (v := ?_) rfl (by kernel_rfl) (by kernel_rfl) (by kernel_rfl) (fun _ _ _ h => h) (Or.inl ⟨by rfl, ?_⟩) (by assumption) ?_
          rotate_left 1
          · (intro w hSw; (try dsimp only at hSw); obtain ⟨⟨p0, p1, p2, p3, p4⟩, r0, r1, r2, r3, r4, r5⟩ := HSKwr.out _ hSw; go_simp) <;> (with_reducible rfl)
          try simp only [Act.put, List.setIfInBounds_toArray, List.set_cons_zero, List.set_cons_succ]
          refine wpAnyH_take (i := 14) (oi := ⟨some 83, _, _, _, _, _⟩) (v := ?_) rfl (by kernel_rfl) (by kernel_rfl) (by kernel_rfl) (fun _ _ _ h => h) (Or.inl ⟨by rfl, ?_⟩) (by assumption) ?_
          rotate_left 1
          · (intro w hSw; (try dsimp only at hSw); obtain ⟨⟨p0, p1, p2, p3, p4⟩, r0, r1, r2, r3, r4, r5⟩ := HSKwr.out _ hSw; go_simp) <;> (with_reducible rfl)
          try simp only [Act.put, List.setIfInBounds_toArray, List.set_cons_zero, List.set_cons_succ]
          refine wpAnyH_done (by kernel_rfl) ?_ _
          clear hHeld
          obtain ⟨ws, hws⟩ : ∃ ws, ws = wr.drew := ⟨_, rfl⟩
          have HFws : Hid (Fr NoBlk wr ws) := by show Fr _ _ _; rw [hws]; exact (Fr.refl NoBlk _).drew
          rw [← hws]
          clear hws
          have HBs : Hid (Bk ws gb 32 (pka P)) := HBr.out.fr HFws.out (fun h => h)
          have HRs : Hid (RkIn M ws m Rk1) := HRr.out.nofr HFws.out
          have HFs : Hid (Fr (fun k => k = m) W ws) := HFr.out.trans (HFws.out.mono fun _ _ h => h.elim)
          have HCs : Hid (ws.ownsRow W.heap.size 30 1 (.slice (some ⟨gc, 0, none⟩) 0 0) 0 []) := own_fr HCr.out HFws.out (fun _ _ h => h)
          have HLW : Hid (lenAt wr m = n) := by
            show _ = _
            unfold lenAt
            rw [HRr.out.cells.2.2.2.2.1, HNL.out]
          obtain ⟨b, o, hao, _⟩ := HRs.out.out.rd (by rw [List.length_map, HNL.out]; exact g2)
          have hrd := HRs.out.out
          rw [hao] at hrd
          have HRD := Lib.hid hrd
          have c4 := HRs.out.cells.2.2.2.2.1
          have f4 := HRs.out.bk.free 4
          rw [hao, HNL.out] at c4
          have hnc : n ≤ Rk1.co := by have := HRs.out.outc.1; have := HNL.out; omega
          have HCAP : Hid (Rk1.co ≤ maxLen) := HRs.out.outc.2.1
          have hn16 : n ≤ 16 := by have := HRs.out.few.1; have := HNL.out; omega
          obtain ⟨nb, hnb⟩ : ∃ nb, nb = (Rk1.ba + 1) % 2 ^ 64 := ⟨_, rfl⟩
          have HNB := Lib.hid hnb
          have hb64 := HRs.out.nums.2.2.1
          have e2 : IntKind.u64.wrap ((Rk1.ba : Int) + 1) = (nb : Int) := by
            simp only [IntKind.wrap, IntKind.bits, IntKind.signed]
            simp
            omega
          have e3 : ((Rk1.ba : Int) + 1) % 18446744073709551616 = (nb : Int) := by omega
          have hln : (Rk1.outs.drop 1).length = n - 1 := by rw [List.length_drop, HNL.out]
          have HLNN := Lib.hid hln
          have n1 := HRs.out.nums
          have HKA2 : Hid (∀ i, i < k + 1 → (Rm.ba + i) % 2 ^ 64 ≤ P.ak) := fun i hi => by
            by_cases hik : i < k
            · exact HKA.out i hik
            · obtain rfl : i = k := by omega
              have e : Rk1.ba = (Rm.ba + i) % 2 ^ 64 := by rw [HRK.out]
              rw [← e]
              exact HBA.out
          have HKL : Hid (k + 1 ≤ Rm.outs.length) := by have := HNN.out.1; show _ ≤ _; omega
          clear hnb hb64 hln hao hrd
          by_cases hco : Rk1.co = 1
          · obtain rfl : n = 1 := by omega
            rw [hco] at c4
            have hz1 := HRs.out.put (M' := M) (R' := { Rk1 with ao := (some ⟨b, o, none⟩), co := 0, outs := Rk1.outs.drop 1 }) 4 (.slice (some ⟨b, o, none⟩) 0 0) (by unfold rka; simp only [List.setIfInBounds_toArray, List.set_cons_zero, List.set_cons_succ, HLNN.out]) (fun _ h => h) HRs.out.mm HRs.out.ml (.inr ⟨by
                have h := cut1 HRD.out (co := Rk1.co) (by rw [List.length_map, HNL.out]; omega) (by rw [List.length_map, HNL.out]; omega)
                rw [if_pos hco, ← List.map_drop] at h
                exact h, ⟨by show (Rk1.outs.drop 1).length ≤ 0; rw [HLNN.out]; omega, Nat.zero_le _, fun h => by cases h⟩, fun p hp => HRs.out.od p (List.mem_of_mem_drop hp), by show (Rk1.outs.drop 1).length ≤ 16; rw [HLNN.out]; omega⟩) (.inl rfl) n1
            have hz2 := hz1.1.put (M' := M) (R' := { Rk1 with ao := (some ⟨b, o, none⟩), co := 0, outs := Rk1.outs.drop 1, ba := nb }) 2 (.int .u64 (nb : Int)) (by unfold rka; simp only [List.setIfInBounds_toArray, List.set_cons_zero, List.set_cons_succ]) (fun _ h => h) hz1.1.mm hz1.1.ml (.inl rfl) (.inl rfl) ⟨n1.1, n1.2.1, by show nb < _; rw [HNB.out]; omega, n1.2.2.2⟩
            have hme : lenAt ((ws.setCell ⟨m, 4, none⟩ (.slice (some ⟨b, o, none⟩) 0 0)).setCell ⟨m, 2, none⟩ (.int .u64 (nb : Int))) m = 0 := by
              unfold lenAt
              rw [hz2.1.cells.2.2.2.2.1]
              exact HLNN.out
            have hfm := hz1.2.trans hz2.2
            have c2 := hz1.1.cells.2.2.1
            have f2 := hz1.1.bk.free 2
            have HME : Hid (lenAt ((ws.setCell ⟨m, 4, none⟩ (.slice (some ⟨b, o, none⟩) 0 0)).setCell ⟨m, 2, none⟩ (.int .u64 (nb : Int))) m < lenAt wr m) := by show _ < _; rw [hme, HLW.out]; omega
            have HZR : Hid (RkIn M ((ws.setCell ⟨m, 4, none⟩ (.slice (some ⟨b, o, none⟩) 0 0)).setCell ⟨m, 2, none⟩ (.int .u64 (nb : Int))) m { Rm with ao := (some ⟨b, o, none⟩), co := Rm.co - (k + 1), outs := Rm.outs.drop (k + 1), ba := (Rm.ba + (k + 1)) % 2 ^ 64 }) := by
              have h := hz2.1
              have e : ({ Rk1 with ao := (some ⟨b, o, none⟩), co := 0, outs := Rk1.outs.drop 1, ba := nb } : Rk) = { Rm with ao := (some ⟨b, o, none⟩), co := Rm.co - (k + 1), outs := Rm.outs.drop (k + 1), ba := (Rm.ba + (k + 1)) % 2 ^ 64 } := by
                have h1 : 0 = Rm.co - k - 1 := by
                  have h2 : Rk1.co = Rm.co - k := by rw [HRK.out]
                  omega
                rw [h1, HNB.out, HRK.out]
                exact next_rk Rm a _ k
              rw [e] at h
              exact h
            have HZF := Lib.hid (HFs.out.trans hfm)
            have HZB := Lib.hid (HBs.out.fr hfm (fun e => by have := HMB.out; omega))
            have HZC := Lib.hid (own_fr HCs.out hfm (fun k hk e => by have := (own_blk HCs.out hk).1; have := HMB.out; have := HGB.out; omega))
            clear hz1 hz2 hme hfm n1 HSKwr g1 g3 g4 
            dsimp only at c2
            go_wp2_with fail
            go_roundw
            case rel => exact ⟨k + 1, _, HKL.out, HKA2, HZR, HZF, HZB, HZC⟩
            case measure => exact HME.out
          · have hco2 : ¬ 1 = Rk1.co := by omega
            have hco3 : (1 : Int) ≤ (n : Int) := by omega
            have hco4 : 1 ≤ n := by omega
            have hz1 := HRs.out.put (M' := M) (R' := { Rk1 with ao := (some ⟨b, o + 1, none⟩), co := (Rk1.co - 1), outs := Rk1.outs.drop 1 }) 4 (.slice (some ⟨b, o + 1, none⟩) (n - 1) (Rk1.co - 1)) (by unfold rka; simp only [List.setIfInBounds_toArray, List.set_cons_zero, List.set_cons_succ, HLNN.out]) (fun _ h => h) HRs.out.mm HRs.out.ml (.inr ⟨by
                have h := cut1 HRD.out (co := Rk1.co) (by rw [List.length_map, HNL.out]; omega) (by rw [List.length_map, HNL.out]; omega)
                rw [if_neg hco, ← List.map_drop] at h
                exact h, ⟨by show (Rk1.outs.drop 1).length ≤ Rk1.co - 1; rw [HLNN.out]; omega, by have := HCAP.out; show Rk1.co - 1 ≤ maxLen; omega, fun h => by cases h⟩, fun p hp => HRs.out.od p (List.mem_of_mem_drop hp), by show (Rk1.outs.drop 1).length ≤ 16; rw [HLNN.out]; omega⟩) (.inl rfl) n1
            have hz2 := hz1.1.put (M' := M) (R' := { Rk1 with ao := (some ⟨b, o + 1, none⟩), co := (Rk1.co - 1), outs := Rk1.outs.drop 1, ba := nb }) 2 (.int .u64 (nb : Int)) (by unfold rka; simp only [List.setIfInBounds_toArray, List.set_cons_zero, List.set_cons_succ]) (fun _ h => h) hz1.1.mm hz1.1.ml (.inl rfl) (.inl rfl) ⟨n1.1, n1.2.1, by show nb < _; rw [HNB.out]; omega, n1.2.2.2⟩
            have hme : lenAt ((ws.setCell ⟨m, 4, none⟩ (.slice (some ⟨b, o + 1, none⟩) (n - 1) (Rk1.co - 1))).setCell ⟨m, 2, none⟩ (.int .u64 (nb : Int))) m = (n - 1) := by
              unfold lenAt
              rw [hz2.1.cells.2.2.2.2.1]
              exact HLNN.out
            have hfm := hz1.2.trans hz2.2
            have c2 := hz1.1.cells.2.2.1
            have f2 := hz1.1.bk.free 2
            have HME : Hid (lenAt ((ws.setCell ⟨m, 4, none⟩ (.slice (some ⟨b, o + 1, none⟩) (n - 1) (Rk1.co - 1))).setCell ⟨m, 2, none⟩ (.int .u64 (nb : Int))) m < lenAt wr m) := by show _ < _; rw [hme, HLW.out]; omega
            have HZR : Hid (RkIn M ((ws.setCell ⟨m, 4, none⟩ (.slice (some ⟨b, o + 1, none⟩) (n - 1) (Rk1.co - 1))).setCell ⟨m, 2, none⟩ (.int .u64 (nb : Int))) m { Rm with ao := (some ⟨b, o + 1, none⟩), co := Rm.co - (k + 1), outs := Rm.outs.drop (k + 1), ba := (Rm.ba + (k + 1)) % 2 ^ 64 }) := by
              have h := hz2.1
              have e : ({ Rk1 with ao := (some ⟨b, o + 1, none⟩), co := (Rk1.co - 1), outs := Rk1.outs.drop 1, ba := nb } : Rk) = { Rm with ao := (some ⟨b, o + 1, none⟩), co := Rm.co - (k + 1), outs := Rm.outs.drop (k + 1), ba := (Rm.ba + (k + 1)) % 2 ^ 64 } := by
                have h1 : (Rk1.co - 1) = Rm.co - k - 1 := by
                  have h2 : Rk1.co = Rm.co - k := by rw [HRK.out]
                  omega
                rw [h1, HNB.out, HRK.out]
                exact next_rk Rm a _ k
              rw [e] at h
              exact h
            have HZF := Lib.hid (HFs.out.trans hfm)
            have HZB := Lib.hid (HBs.out.fr hfm (fun e => by have := HMB.out; omega))
            have HZC := Lib.hid (own_fr HCs.out hfm (fun k hk e => by have := (own_blk HCs.out hk).1; have := HMB.out; have := HGB.out; omega))
            clear hz1 hz2 hme hfm n1 HSKwr g1 g3 g4
            dsimp only at c2
            go_wp2_with fail
            go_roundw
            case rel => exact ⟨k + 1, _, HKL.out, HKA2, HZR, HZF, HZB, HZC⟩
            case measure => exact HME.out
        · have g1 : decide ((0 : Int) < (n : Int)) = true := by simp; omega
          have g2 : 0 < n := by omega
          have g3 : decide (Rk1.ba ≤ P.ak) = false := by simp; omega
          have g4 : decide ((Rk1.ba : Int) ≤ (P.ak : Int)) = false := by simp; omega
          have HSTOP : Hid (k = Rm.outs.length ∨ P.ak < (Rm.ba + k) % 2 ^ 64) := by
            right
            have e : Rk1.ba = (Rm.ba + k) % 2 ^ 64 := by rw [HRK.out]
            omega
          clear hba
          go_upto_region 11 with fail
          refine wp_region_held_drew (S := fun w' => Fr NoBlk wr w') (by kernel_rfl) (by exact (Fr.refl NoBlk wr).drew) (fun hHeld => ?_)
          refine wpAnyH_take (i := 0) (oi := ⟨some 69, _, _, _, _, _⟩) (v := ?_) rfl (by kernel_rfl) (by kernel_rfl) (by kernel_rfl) (fun _ _ _ h => h) (Or.inl ⟨by rfl, ?_⟩) (by assumption) ?_
          rotate_left 1
          · (intro w hSw; (try dsimp only at hSw); obtain ⟨⟨p0, p1, p2, p3, p4⟩, r0, r1, r2, r3, r4, r5⟩ := HSKwr.out _ hSw; go_simp) <;> (with_reducible rfl)
          try simp only [Act.put, List.setIfInBounds_toArray, List.set_cons_zero, List.set_cons_succ]
          refine wpAnyH_take (i := 1) (oi := ⟨some 70, _, _, _, _, _⟩) (v := ?_) rfl (by kernel_rfl) (by kernel_rfl) (by kernel_rfl) (fun _ _ _ h => h) (Or.inl ⟨by rfl, ?_⟩) (by assumption) ?_
          rotate_left 1
          · (intro w hSw; (try dsimp only at hSw); obtain ⟨⟨p0, p1, p2, p3, p4⟩, r0, r1, r2, r3, r4, r5⟩ := HSKwr.out _ hSw; go_simp) <;> (with_reducible rfl)
          try simp only [Act.put, List.setIfInBounds_toArray, List.set_cons_zero, List.set_cons_succ]
          refine wpAnyH_take (i := 2) (oi := ⟨some 71, _, _, _, _, _⟩) (v := ?_) rfl (by kernel_rfl) (by kernel_rfl) (by kernel_rfl) (fun _ _ _ h => h) (Or.inl ⟨by rfl, ?_⟩) (by assumption) ?_
          rotate_left 1
          · (intro w hSw; (try dsimp only at hSw); obtain ⟨⟨p0, p1, p2, p3, p4⟩, r0, r1, r2, r3, r4, r5⟩ := HSKwr.out _ hSw; go_simp) <;> (with_reducible rfl)
          try simp only [Act.put, List.setIfInBounds_toArray, List.set_cons_zero, List.set_cons_succ]
          refine wpAnyH_take (i := 3) (oi := ⟨some 72, _, _, _, _, _⟩) (v := ?_) rfl (by kernel_rfl) (by kernel_rfl) (by kernel_rfl) (fun _ _ _ h => h) (Or.inl ⟨by rfl, ?_⟩) (by assumption) ?_
          rotate_left 1
          · (intro w hSw; (try dsimp only at hSw); obtain ⟨⟨p0, p1, p2, p3, p4⟩, r0, r1, r2, r3, r4, r5⟩ := HSKwr.out _ hSw; go_simp) <;> (with_reducible rfl)
          try simp only [Act.put, List.setIfInBounds_toArray, List.set_cons_zero, List.set_cons_succ]
          refine wpAnyH_take (i := 4) (oi := ⟨some 73, _, _, _, _, _⟩) (v := ?_) rfl (by kernel_rfl) (by kernel_rfl) (by kernel_rfl) (fun _ _ _ h => h) (Or.inl ⟨by rfl, ?_⟩) (by assumption) ?_
          rotate_left 1
          · (intro w hSw; (try dsimp only at hSw); obtain ⟨⟨p0, p1, p2, p3, p4⟩, r0, r1, r2, r3, r4, r5⟩ := HSKwr.out _ hSw; go_simp) <;> (with_reducible rfl)
          try simp only [Act.put, List.setIfInBounds_toArray, List.set_cons_zero, List.set_cons_succ]
          refine wpAnyH_take (i := 5) (oi := ⟨some 74, _, _, _, _, _⟩) (v := ?_) rfl (by kernel_rfl) (by kernel_rfl) (by kernel_rfl) (fun _ _ _ h => h) (Or.inl ⟨by rfl, ?_⟩) (by assumption) ?_
          rotate_left 1
          · (intro w hSw; (try dsimp only at hSw); obtain ⟨⟨p0, p1, p2, p3, p4⟩, r0, r1, r2, r3, r4, r5⟩ := HSKwr.out _ hSw; go_simp) <;> (with_reducible rfl)
          try simp only [Act.put, List.setIfInBounds_toArray, List.set_cons_zero, List.set_cons_succ]
          refine wpAnyH_take (i := 6) (oi := ⟨some 75, _, _, _, _, _⟩) (v := ?_) rfl (by kernel_rfl) (by kernel_rfl) (by kernel_rfl) (fun _ _ _ h => h) (Or.inl ⟨by rfl, ?_⟩) (by assumption) ?_
          rotate_left 1
          · (intro w hSw; (try dsimp only at hSw); obtain ⟨⟨p0, p1, p2, p3, p4⟩, r0, r1, r2, r3, r4, r5⟩ := HSKwr.out _ hSw; go_simp) <;> (with_reducible rfl)
          try simp only [Act.put, List.setIfInBounds_toArray, List.set_cons_zero, List.set_cons_succ]
          refine wpAnyH_take (i := 7) (oi := ⟨some 76, _, _, _, _, _⟩) (v := ?_) rfl (by kernel_rfl) (by kernel_rfl) (by kernel_rfl) (fun _ _ _ h => h) (Or.inl ⟨by rfl, ?_⟩) (by assumption) ?_
          rotate_left 1
          · (intro w hSw; (try dsimp only at hSw); obtain ⟨⟨p0, p1, p2, p3, p4⟩, r0, r1, r2, r3, r4, r5⟩ := HSKwr.out _ hSw; go_simp) <;> (with_reducible rfl)
          try simp only [Act.put, List.setIfInBounds_toArray, List.set_cons_zero, List.set_cons_succ]
          refine wpAnyH_take (i := 8) (oi := ⟨some 77, _, _, _, _, _⟩) (v := ?_) rfl (by kernel_rfl) (by kernel_rfl) (by kernel_rfl) (fun _ _ _ h => h) (Or.inl ⟨by rfl, ?_⟩) (by assumption) ?_
          rotate_left 1
          · (intro w hSw; (try dsimp only at hSw); obtain ⟨⟨p0, p1, p2, p3, p4⟩, r0, r1, r2, r3, r4, r5⟩ := HSKwr.out _ hSw; go_simp) <;> (with_reducible rfl)
          try simp only [Act.put, List.setIfInBounds_toArray, List.set_cons_zero, List.set_cons_succ]
          refine wpAnyH_take (i := 9) (oi := ⟨some 78, _, _, _, _, _⟩) (v := ?_) rfl (by kernel_rfl) (by kernel_rfl) (by kernel_rfl) (fun _ _ _ h => h) (Or.inl ⟨by rfl, ?_⟩) (by assumption) ?_
          rotate_left 1
          · (intro w hSw; (try dsimp only at hSw); obtain ⟨⟨p0, p1, p2, p3, p4⟩, r0, r1, r2, r3, r4, r5⟩ := HSKwr.out _ hSw; go_simp) <;> (with_reducible rfl)
          try simp only [Act.put, List.setIfInBounds_toArray, List.set_cons_zero, List.set_cons_succ]
          refine wpAnyH_take (i := 10) (oi := ⟨some 79, _, _, _, _, _⟩) (v := ?_) rfl (by kernel_rfl) (by kernel_rfl) (by kernel_rfl) (fun _ _ _ h => h) (Or.inl ⟨by rfl, ?_⟩) (by assumption) ?_
          rotate_left 1
          · (intro w hSw; (try dsimp only at hSw); obtain ⟨⟨p0, p1, p2, p3, p4⟩, r0, r1, r2, r3, r4, r5⟩ := HSKwr.out _ hSw; go_simp) <;> (with_reducible rfl)
          try simp only [Act.put, List.setIfInBounds_toArray, List.set_cons_zero, List.set_cons_succ]
          refine wpAnyH_take (i := 11) (oi := ⟨some 80, _, _, _, _, _⟩) (v := ?_) rfl (by kernel_rfl) (by kernel_rfl) (by kernel_rfl) (fun _ _ _ h => h) (Or.inl ⟨by rfl, ?_⟩) (by assumption) ?_
          rotate_left 1
          · (intro w hSw; (try dsimp only at hSw); obtain ⟨⟨p0, p1, p2, p3, p4⟩, r0, r1, r2, r3, r4, r5⟩ := HSKwr.out _ hSw; go_simp) <;> (with_reducible rfl)
          try simp only [Act.put, List.setIfInBounds_toArray, List.set_cons_zero, List.set_cons_succ]
          refine wpAnyH_take (i := 12) (oi := ⟨some 81, _, _, _, _, _⟩) (v := ?_) rfl (by kernel_rfl) (by kernel_rfl) (by kernel_rfl) (fun _ _ _ h => h) (Or.inl ⟨by rfl, ?_⟩) (by assumption) ?_
          rotate_left 1
          · (intro w hSw; (try dsimp only at hSw); obtain ⟨⟨p0, p1, p2, p3, p4⟩, r0, r1, r2, r3, r4, r5⟩ := HSKwr.out _ hSw; go_simp) <;> (with_reducible rfl)
          try simp only [Act.put, List.setIfInBounds_toArray, List.set_cons_zero, List.set_cons_succ]
          refine wpAnyH_take (i := 13) (oi := ⟨some 82, _, _, _, _, _⟩) (v := ?_) rfl (by kernel_rfl) (by kernel_rfl) (by kernel_rfl) (fun _ _ _ h => h) (Or.inl ⟨by rfl, ?_⟩) (by assumption) ?_
          rotate_left 1
          · (intro w hSw; (try dsimp only at hSw); obtain ⟨⟨p0, p1, p2, p3, p4⟩, r0, r1, r2, r3, r4, r5⟩ := HSKwr.out _ hSw; go_simp) <;> (with_reducible rfl)
          try simp only [Act.put, List.setIfInBounds_toArray, List.set_cons_zero, List.set_cons_succ]
          refine wpAnyH_take (i := 14) (oi := ⟨some 83, _, _, _, _, _⟩) (v := ?_) rfl (by kernel_rfl) (by kernel_rfl) (by kernel_rfl) (fun _ _ _ h => h) (Or.inl ⟨by rfl, ?_⟩) (by assumption) ?_
          rotate_left 1
          · (intro w hSw; (try dsimp only at hSw); obtain ⟨⟨p0, p1, p2, p3, p4⟩, r0, r1, r2, r3, r4, r5⟩ := HSKwr.out _ hSw; go_simp) <;> (with_reducible rfl)
          try simp only [Act.put, List.setIfInBounds_toArray, List.set_cons_zero, List.set_cons_succ]
          refine wpAnyH_done (by kernel_rfl) ?_ _
          clear hHeld
          obtain ⟨ws, hws⟩ : ∃ ws, ws = wr.drew := ⟨_, rfl⟩
          have HFws : Hid (Fr NoBlk wr ws) := by show Fr _ _ _; rw [hws]; exact (Fr.refl NoBlk _).drew
          rw [← hws]
          clear hws
          have HBs : Hid (Bk ws gb 32 (pka P)) := HBr.out.fr HFws.out (fun h => h)
          have HRs : Hid (RkIn M ws m Rk1) := HRr.out.nofr HFws.out
          have HFs : Hid (Fr (fun k => k = m) W ws) := HFr.out.trans (HFws.out.mono fun _ _ h => h.elim)
          have HCs : Hid (ws.ownsRow W.heap.size 30 1 (.slice (some ⟨gc, 0, none⟩) 0 0) 0 []) := own_fr HCr.out HFws.out (fun _ _ h => h)
          have HACK : Hid (AckV (metV (rv R) P.ep) P.ak (rv Rk1)) := by
            refine ⟨k, ?_, ?_, ?_, ?_⟩
            · rw [← HRM.out.1]
              show k ≤ (Rm.outs.map _).length
              rw [List.length_map]
              exact hk
            · rw [← HRM.out.1]
              exact HKA.out
            · rw [← HRM.out.1]
              show k = (Rm.outs.map _).length ∨ _
              rw [List.length_map]
              exact HSTOP.out
            · rw [← HRM.out.1, HRK.out]
              show Rv.mk _ _ _ _ ((Rm.outs.drop k).map _) _ = Rv.mk _ _ _ _ ((Rm.outs.map _).drop k) _
              rw [List.map_drop]
              rfl
          have HE1 : Hid (Rk1.ers.length < 1000 ∧ Rk1.ex < 2 ^ 63) := by rw [HRK.out]; exact ⟨HRM.out.2.1, HRM.out.2.2⟩
          clear HSKwr HRr HFr HBr HCr HFws HKA HSTOP HNN HNL
          go_wp2_with fail
          go_meet
          exact ⟨rfl, Rk1, HACK, HE1, HRs, HFs, HBs, HCs⟩
end Go.Proofs.Ytchlafhmoncldaa
