/- The law's step: a call on both. No condition but lengths. -/
import Derived.Test.YtnmemdhajjibgaaPair
import Derived.Test.YtnmemdhajjibgaaOps
import Derived.Test.YtnmemdhajjibgaaGreat3
import Derived.Test.YtnmemdhajjibgaaLawp
import Derived.Test.YtnmemdhajjibgaaSpeaks3
namespace Go.Proofs.Ytnmemdhajjibgaa
open Go.RowKit

set_option maxRecDepth 100000 in
theorem spoil3_any (w : World) (N : Nat) (A : Option Addr) (n c : Nat) (h : Fsh w N A n 5) (hn : n ≤ maxLen) :
    Calls Try.prog 31 #[.slice A n c] w fun e w' => e = .returned (.tuple #[]) ∧ Fr (fun k => ablk A k ∧ 0 < n) w w' := by
  have HH := Lib.hid h
  clear h
  unfold maxLen at hn
  go_enter Try.func31, Try.ntmps31
  go_wp2_with fail
  go_loopw [5] (fun i wr => ∃ k : Nat, k ≤ n ∧ i = .int .i64 k ∧ Hid (Fsh wr N A n 5) ∧ Hid (Fr (fun k => ablk A k ∧ 0 < n) w wr)) (fun i _ => n - (intOf i).toNat)
  case atStart => exact ⟨0, Nat.zero_le _, rfl, HH, Fr.refl _ _⟩
  case round =>
    clear HH
    obtain ⟨k, hk, rfl, HY, HF⟩ := hrel
    by_cases hlt : k < n
    · obtain ⟨g, cs, rfl, hN, hb, hs⟩ := HY.out (by omega)
      have hcell : wr.cell? ⟨g, k, none⟩ = cs[k]? := hb.cell k
      rw [Array.getElem?_eq_getElem (show k < cs.size by omega)] at hcell
      have hfree := hb.free k
      have HS := Lib.hid (HY.out.put ⟨g, k, none⟩ rfl (.int .u8 238))
      have HF2 := Lib.hid (HF.out.setCell (p := ⟨g, k, none⟩) (fun _ => ⟨⟨_, rfl, rfl⟩, by omega⟩) (.int .u8 238))
      generalize cs[k] = u at *
      clear hb hN hs
      go_wp2_with fail
      go_roundw
      case rel => exact ⟨k + 1, by omega, by go_num, HS, HF2⟩
      case measure => simp [intOf]; omega
    · go_wp2_with fail
      go_end0
      exact ⟨rfl, HF.out⟩

/-- the two are alike behind a step. -/
def StepPost (v : World) (gd : Nat) (m : RM) (e : Ending) (w' : World) : Prop := e = .returned (.bool true) ∧ ∃ p' m', m'.pd = norm p' ∧ m'.g = m.g ∧ Pair v w' gd p' m' NoBlk
theorem Pair.none {v wr : World} {gd : Nat} {p : PD} {m : RM} {E : Nat → Prop} (h : Pair v wr gd p m E) : Pair v wr gd p m NoBlk := h.more (Fr.refl _ _) fun _ h => h.elim
theorem StepPost.of {v w' : World} {gd : Nat} {m m' : RM} {p' : PD} {E : Nat → Prop} (h : m'.pd = norm p' ∧ m'.g = m.g ∧ Pair v w' gd p' m' E) : StepPost v gd m (.returned (.bool true)) w' :=
  ⟨rfl, p', m', h.1, h.2.1, h.2.2.none⟩

set_option maxRecDepth 100000 in
set_option maxHeartbeats 8000000 in
theorem step_any (v wr : World) (gd : Nat) (p : PD) (m : RM) (h : Pair v wr gd p m NoBlk) (hm : m.pd = norm p) (x : Opn) (hx : OpIn v x) (hs : x.data.2.2.length ≤ 2000 ∧ x.name.length ≤ 200 ∧ x.to.length ≤ 200) :
    Calls Try.prog 17 #[.pointer (some ⟨gd, 0, none⟩), .pointer (some ⟨m.g, 0, none⟩), .agg (opa x)] wr (StepPost v gd m) := by
  obtain ⟨i0, hi, hz0, hz1, hz2⟩ := info_parts byteInfo
  have ht : RFit m := h.fit hm rfl rfl h.ats.leftB
  obtain ⟨kind, n, nm, tt, ⟨va, vc, vb⟩, ⟨ka, kc, kb⟩⟩ := x
  obtain ⟨⟨⟨hv1, hv2⟩, hv3, hv4⟩, ⟨⟨hk1, hk2⟩, hk3, hk4⟩, hx1, hx2, hx3⟩ := hx
  dsimp only at hs hv1 hv2 hv3 hv4 hk1 hk2 hk3 hk4 hx1 hx2 hx3
  obtain ⟨E, hE⟩ : ∃ E : Nat → Prop, E = fun k => k = wr.heap.size := ⟨_, rfl⟩
  obtain ⟨wB, hwB⟩ : ∃ wB, wB = wr.alloc (.cells #[.int .i64 kind, .int .i64 n, .string (bstr nm), .string (bstr tt), .slice va vb.length vc, .slice ka kb.length kc] 34) := ⟨_, rfl⟩
  have hbk : Bk wB wr.heap.size 34 #[.int .i64 kind, .int .i64 n, .string (bstr nm), .string (bstr tt), .slice va vb.length vc, .slice ka kb.length kc] := by rw [hwB]; exact Bk.new _ _ _
  have hfB : Fr NoBlk wr wB := by rw [hwB]; exact (Fr.refl _ _).alloc _
  have hgt : gd < wr.heap.size := h.ats.gd_lt
  have HPB : Hid (Pair v wB gd p m E) := h.more hfB fun k hk => by
    rw [hE] at hk
    subst hk
    exact .inr ⟨Nat.le_refl _, hbk.lt⟩
  have hEg : E wr.heap.size := by rw [hE]
  have HBK := Lib.hid hbk
  have KB : ∀ W, Fr (fun k => ¬ E k) wB W → Bk W wr.heap.size 34 #[.int .i64 kind, .int .i64 n, .string (bstr nm), .string (bstr tt), .slice va vb.length vc, .slice ka kb.length kc] := fun W hW => HBK.out.fr hW fun hn => hn hEg
  have KF : ∀ W, Fr NoBlk v W → Fr (fun k => ¬ E k) wB W → W.cell? ⟨wr.heap.size, 1, none⟩ = some (.int .i64 n) ∧ W.cell? ⟨wr.heap.size, 2, none⟩ = some (.string (bstr nm)) ∧ W.cell? ⟨wr.heap.size, 3, none⟩ = some (.string (bstr tt)) ∧ True := fun W _ hW => ⟨(KB W hW).cell 1, (KB W hW).cell 2, (KB W hW).cell 3, trivial⟩
  have HWB := Lib.hid hwB
  have HT := Lib.hid ht
  have HM := Lib.hid hm
  have HV := Lib.hid (And.intro hv1 hv2)
  have b0 : wB.cell? ⟨wr.heap.size, 0, none⟩ = some (.int .i64 kind) := hbk.cell 0
  have b1 : wB.cell? ⟨wr.heap.size, 1, none⟩ = some (.int .i64 n) := hbk.cell 1
  have b4 : wB.cell? ⟨wr.heap.size, 4, none⟩ = some (.slice va vb.length vc) := hbk.cell 4
  have hbl : wr.heap.size < wB.heap.size := hbk.lt
  have HX3 := Lib.hid hx3
  clear h hm ht hwB hbk hv1 hv2 hk1 hk2 hk3 hk4 hx3
  unfold opa st sl nsl
  dsimp only
  obtain ⟨q, hq, hq7⟩ := low_bits kind 7 (by omega)
  rw [show ((7 : Nat) : Int) = 7 from rfl] at hq
  go_enter Try.func17, Try.ntmps17
  by_cases h0 : q = 0
  · subst h0
    have HB := Lib.hid (both_sync (v := v) (wr := wB) (gd := gd) (E := E) HM.out HT.out nm hx1)
    go_upto_region 3 with fail
    rw [← HWB.out]
    clear HWB hq
    refine wp_region_held_drew (S := fun w' => w'.cell? ⟨wr.heap.size, 1, none⟩ = some (.int .i64 n) ∧ w'.cell? ⟨wr.heap.size, 2, none⟩ = some (.string (bstr nm)) ∧ w'.cell? ⟨wr.heap.size, 3, none⟩ = some (.string (bstr tt)) ∧ True) (by kernel_rfl) (by exact KF _ (HPB.out.nofr (Fr.refl _ _).drew).fr (Fr.refl _ _).drew) (fun hHeld => ?_)
    refine wpAnyH_take (i := 0) (oi := ⟨some 14, _, _, _, _, _⟩) (v := ?_) rfl (by kernel_rfl) (by kernel_rfl) (by kernel_rfl) (fun _ _ _ h => h) (Or.inl ⟨by rfl, ?_⟩) (by assumption) ?_
    rotate_left 1
    · (intro w hSw; (try dsimp only at hSw); obtain ⟨hSa, hSb, hSc, hSd⟩ := hSw; go_simp) <;> (with_reducible rfl)
    try simp only [Act.put, List.setIfInBounds_toArray, List.set_cons_zero, List.set_cons_succ]
    refine wpAnyH_take (i := 1) (oi := ⟨some 15, _, _, _, _, _⟩) (v := ?_) rfl (by kernel_rfl) (by kernel_rfl) (by kernel_rfl) (fun _ _ _ h => h) (Or.inl ⟨by rfl, ?_⟩) (by assumption) ?_
    rotate_left 1
    · (intro w hSw; (try dsimp only at hSw); obtain ⟨hSa, hSb, hSc, hSd⟩ := hSw; go_simp) <;> (with_reducible rfl)
    try simp only [Act.put, List.setIfInBounds_toArray, List.set_cons_zero, List.set_cons_succ]
    refine wpAnyH_take (i := 2) (oi := ⟨some 16, _, _, _, _, _⟩) (v := ?_) rfl (by kernel_rfl) (by kernel_rfl) (by kernel_rfl) (fun _ _ _ h => h) (Or.inl ⟨by rfl, ?_⟩) (by assumption) ?_
    rotate_left 1
    · (intro w hSw; (try dsimp only at hSw); obtain ⟨hSa, hSb, hSc, hSd⟩ := hSw; go_simp) <;> (with_reducible rfl)
    try simp only [Act.put, List.setIfInBounds_toArray, List.set_cons_zero, List.set_cons_succ]
    refine wpAnyH_take (i := 4) (oi := ⟨some 18, _, _, _, _, _⟩) (v := ?_) rfl (by kernel_rfl) (by kernel_rfl) (by kernel_rfl) (fun _ _ _ h => h) (Or.inl ⟨by rfl, ?_⟩) (by assumption) ?_
    rotate_left 1
    · (intro w hSw; (try dsimp only at hSw); obtain ⟨hSa, hSb, hSc, hSd⟩ := hSw; go_simp) <;> (with_reducible rfl)
    try simp only [Act.put, List.setIfInBounds_toArray, List.set_cons_zero, List.set_cons_succ]
    refine wpAnyH_take (i := 5) (oi := ⟨some 19, _, _, _, _, _⟩) (v := ?_) rfl (by kernel_rfl) (by kernel_rfl) (by kernel_rfl) (fun _ _ _ h => h) (Or.inl ⟨by rfl, ?_⟩) (by assumption) ?_
    rotate_left 1
    · (intro w hSw; (try dsimp only at hSw); obtain ⟨hSa, hSb, hSc, hSd⟩ := hSw; go_simp) <;> (with_reducible rfl)
    try simp only [Act.put, List.setIfInBounds_toArray, List.set_cons_zero, List.set_cons_succ]
    refine wpAnyH_take (i := 6) (oi := ⟨some 20, _, _, _, _, _⟩) (v := ?_) rfl (by kernel_rfl) (by kernel_rfl) (by kernel_rfl) (fun _ _ _ h => h) (Or.inl ⟨by rfl, ?_⟩) (by assumption) ?_
    rotate_left 1
    · (intro w hSw; (try dsimp only at hSw); obtain ⟨hSa, hSb, hSc, hSd⟩ := hSw; go_simp) <;> (with_reducible rfl)
    try simp only [Act.put, List.setIfInBounds_toArray, List.set_cons_zero, List.set_cons_succ]
    refine wpAnyH_ready (rs := [3]) (by kernel_rfl) (by simp) ?_
    refine AllReadyH.cons (o := ⟨some 17, _, _, _, _, _⟩) rfl (fun K hK => ?_) AllReadyH.nil
    go_simp
    go_at_call 19
    refine (HB.out.dd _ _ (HPB.out.nofr (Fr.refl _ _).drew) (Fr.refl _ _).drew).mono ?_
    rintro e w5 ⟨rfl, hp5, hf5⟩
    have HP5 := Lib.hid hp5
    have HF5 : Hid (Fr (fun k => ¬ E k) wB w5) := ((Fr.refl _ _).drew).trans hf5
    have s5 := KF w5 HP5.out.fr HF5.out
    clear hp5 hf5
    go_wp2_with fail
    refine hK.out _ _ ?_ (fun hHeld => ?_)
    · exact s5
    clear hK K
    try simp only [Act.put, List.setIfInBounds_toArray, List.set_cons_zero, List.set_cons_succ]
    refine wpAnyH_ready (rs := [7]) (by kernel_rfl) (by simp) ?_
    refine AllReadyH.cons (o := ⟨some 21, _, _, _, _, _⟩) rfl (fun K hK => ?_) AllReadyH.nil
    go_simp
    go_at_call 32
    refine (HB.out.rr _ _ HP5.out HF5.out).mono ?_
    rintro e w6 ⟨rfl, m6, hm6, hg6, hp6, hf6⟩
    have HZ6 := Lib.hid (And.intro hm6 (And.intro hg6 hp6))
    have HF6 : Hid (Fr (fun k => ¬ E k) wB w6) := HF5.out.trans hf6
    have s6 := KF w6 hp6.fr HF6.out
    clear hm6 hg6 hp6 hf6
    go_wp2_with fail
    refine hK.out _ _ ?_ (fun hHeld => ?_)
    · exact s6
    clear hK K
    try simp only [Act.put, List.setIfInBounds_toArray, List.set_cons_zero, List.set_cons_succ]
    refine wpAnyH_take (i := 8) (oi := ⟨some 22, _, _, _, _, _⟩) (v := ?_) rfl (by kernel_rfl) (by kernel_rfl) (by kernel_rfl) (fun _ _ _ h => h) (Or.inl ⟨by rfl, ?_⟩) (by assumption) ?_
    rotate_left 1
    · (intro w hSw; (try dsimp only at hSw); obtain ⟨hSa, hSb, hSc, hSd⟩ := hSw; go_simp) <;> (with_reducible rfl)
    try simp only [Act.put, List.setIfInBounds_toArray, List.set_cons_zero, List.set_cons_succ]
    refine wpAnyH_take (i := 9) (oi := ⟨some 6, _, _, _, _, _⟩) (v := ?_) rfl (by kernel_rfl) (by kernel_rfl) (by kernel_rfl) (fun _ _ _ h => h) (Or.inl ⟨by rfl, ?_⟩) (by assumption) ?_
    rotate_left 1
    · (intro w hSw; (try dsimp only at hSw); obtain ⟨hSa, hSb, hSc, hSd⟩ := hSw; go_simp) <;> (with_reducible rfl)
    try simp only [Act.put, List.setIfInBounds_toArray, List.set_cons_zero, List.set_cons_succ]
    refine wpAnyH_done (by kernel_rfl) ?_ _
    have HZ := Lib.hid (StepPost.of HZ6.out)
    go_wp2_with fail
    go_ret
    exact HZ.out
  by_cases h1 : q = 1
  · subst h1
    have HB := Lib.hid (both_rename (v := v) (wr := wB) (gd := gd) (E := E) HM.out HT.out nm hx1 tt hx2)
    go_upto_region 5 with fail
    rw [← HWB.out]
    clear HWB hq
    refine wp_region_held_drew (S := fun w' => w'.cell? ⟨wr.heap.size, 1, none⟩ = some (.int .i64 n) ∧ w'.cell? ⟨wr.heap.size, 2, none⟩ = some (.string (bstr nm)) ∧ w'.cell? ⟨wr.heap.size, 3, none⟩ = some (.string (bstr tt)) ∧ True) (by kernel_rfl) (by exact KF _ (HPB.out.nofr (Fr.refl _ _).drew).fr (Fr.refl _ _).drew) (fun hHeld => ?_)
    refine wpAnyH_take (i := 0) (oi := ⟨some 25, _, _, _, _, _⟩) (v := ?_) rfl (by kernel_rfl) (by kernel_rfl) (by kernel_rfl) (fun _ _ _ h => h) (Or.inl ⟨by rfl, ?_⟩) (by assumption) ?_
    rotate_left 1
    · (intro w hSw; (try dsimp only at hSw); obtain ⟨hSa, hSb, hSc, hSd⟩ := hSw; go_simp) <;> (with_reducible rfl)
    try simp only [Act.put, List.setIfInBounds_toArray, List.set_cons_zero, List.set_cons_succ]
    refine wpAnyH_take (i := 1) (oi := ⟨some 26, _, _, _, _, _⟩) (v := ?_) rfl (by kernel_rfl) (by kernel_rfl) (by kernel_rfl) (fun _ _ _ h => h) (Or.inl ⟨by rfl, ?_⟩) (by assumption) ?_
    rotate_left 1
    · (intro w hSw; (try dsimp only at hSw); obtain ⟨hSa, hSb, hSc, hSd⟩ := hSw; go_simp) <;> (with_reducible rfl)
    try simp only [Act.put, List.setIfInBounds_toArray, List.set_cons_zero, List.set_cons_succ]
    refine wpAnyH_take (i := 2) (oi := ⟨some 27, _, _, _, _, _⟩) (v := ?_) rfl (by kernel_rfl) (by kernel_rfl) (by kernel_rfl) (fun _ _ _ h => h) (Or.inl ⟨by rfl, ?_⟩) (by assumption) ?_
    rotate_left 1
    · (intro w hSw; (try dsimp only at hSw); obtain ⟨hSa, hSb, hSc, hSd⟩ := hSw; go_simp) <;> (with_reducible rfl)
    try simp only [Act.put, List.setIfInBounds_toArray, List.set_cons_zero, List.set_cons_succ]
    refine wpAnyH_take (i := 3) (oi := ⟨some 28, _, _, _, _, _⟩) (v := ?_) rfl (by kernel_rfl) (by kernel_rfl) (by kernel_rfl) (fun _ _ _ h => h) (Or.inl ⟨by rfl, ?_⟩) (by assumption) ?_
    rotate_left 1
    · (intro w hSw; (try dsimp only at hSw); obtain ⟨hSa, hSb, hSc, hSd⟩ := hSw; go_simp) <;> (with_reducible rfl)
    try simp only [Act.put, List.setIfInBounds_toArray, List.set_cons_zero, List.set_cons_succ]
    refine wpAnyH_take (i := 4) (oi := ⟨some 29, _, _, _, _, _⟩) (v := ?_) rfl (by kernel_rfl) (by kernel_rfl) (by kernel_rfl) (fun _ _ _ h => h) (Or.inl ⟨by rfl, ?_⟩) (by assumption) ?_
    rotate_left 1
    · (intro w hSw; (try dsimp only at hSw); obtain ⟨hSa, hSb, hSc, hSd⟩ := hSw; go_simp) <;> (with_reducible rfl)
    try simp only [Act.put, List.setIfInBounds_toArray, List.set_cons_zero, List.set_cons_succ]
    refine wpAnyH_take (i := 6) (oi := ⟨some 31, _, _, _, _, _⟩) (v := ?_) rfl (by kernel_rfl) (by kernel_rfl) (by kernel_rfl) (fun _ _ _ h => h) (Or.inl ⟨by rfl, ?_⟩) (by assumption) ?_
    rotate_left 1
    · (intro w hSw; (try dsimp only at hSw); obtain ⟨hSa, hSb, hSc, hSd⟩ := hSw; go_simp) <;> (with_reducible rfl)
    try simp only [Act.put, List.setIfInBounds_toArray, List.set_cons_zero, List.set_cons_succ]
    refine wpAnyH_take (i := 7) (oi := ⟨some 32, _, _, _, _, _⟩) (v := ?_) rfl (by kernel_rfl) (by kernel_rfl) (by kernel_rfl) (fun _ _ _ h => h) (Or.inl ⟨by rfl, ?_⟩) (by assumption) ?_
    rotate_left 1
    · (intro w hSw; (try dsimp only at hSw); obtain ⟨hSa, hSb, hSc, hSd⟩ := hSw; go_simp) <;> (with_reducible rfl)
    try simp only [Act.put, List.setIfInBounds_toArray, List.set_cons_zero, List.set_cons_succ]
    refine wpAnyH_take (i := 8) (oi := ⟨some 33, _, _, _, _, _⟩) (v := ?_) rfl (by kernel_rfl) (by kernel_rfl) (by kernel_rfl) (fun _ _ _ h => h) (Or.inl ⟨by rfl, ?_⟩) (by assumption) ?_
    rotate_left 1
    · (intro w hSw; (try dsimp only at hSw); obtain ⟨hSa, hSb, hSc, hSd⟩ := hSw; go_simp) <;> (with_reducible rfl)
    try simp only [Act.put, List.setIfInBounds_toArray, List.set_cons_zero, List.set_cons_succ]
    refine wpAnyH_take (i := 9) (oi := ⟨some 34, _, _, _, _, _⟩) (v := ?_) rfl (by kernel_rfl) (by kernel_rfl) (by kernel_rfl) (fun _ _ _ h => h) (Or.inl ⟨by rfl, ?_⟩) (by assumption) ?_
    rotate_left 1
    · (intro w hSw; (try dsimp only at hSw); obtain ⟨hSa, hSb, hSc, hSd⟩ := hSw; go_simp) <;> (with_reducible rfl)
    try simp only [Act.put, List.setIfInBounds_toArray, List.set_cons_zero, List.set_cons_succ]
    refine wpAnyH_take (i := 10) (oi := ⟨some 35, _, _, _, _, _⟩) (v := ?_) rfl (by kernel_rfl) (by kernel_rfl) (by kernel_rfl) (fun _ _ _ h => h) (Or.inl ⟨by rfl, ?_⟩) (by assumption) ?_
    rotate_left 1
    · (intro w hSw; (try dsimp only at hSw); obtain ⟨hSa, hSb, hSc, hSd⟩ := hSw; go_simp) <;> (with_reducible rfl)
    try simp only [Act.put, List.setIfInBounds_toArray, List.set_cons_zero, List.set_cons_succ]
    refine wpAnyH_ready (rs := [5]) (by kernel_rfl) (by simp) ?_
    refine AllReadyH.cons (o := ⟨some 30, _, _, _, _, _⟩) rfl (fun K hK => ?_) AllReadyH.nil
    go_simp
    go_at_call 25
    refine (HB.out.dd _ _ (HPB.out.nofr (Fr.refl _ _).drew) (Fr.refl _ _).drew).mono ?_
    rintro e w5 ⟨rfl, hp5, hf5⟩
    have HP5 := Lib.hid hp5
    have HF5 : Hid (Fr (fun k => ¬ E k) wB w5) := ((Fr.refl _ _).drew).trans hf5
    have s5 := KF w5 HP5.out.fr HF5.out
    clear hp5 hf5
    go_wp2_with fail
    refine hK.out _ _ ?_ (fun hHeld => ?_)
    · exact s5
    clear hK K
    try simp only [Act.put, List.setIfInBounds_toArray, List.set_cons_zero, List.set_cons_succ]
    refine wpAnyH_ready (rs := [11]) (by kernel_rfl) (by simp) ?_
    refine AllReadyH.cons (o := ⟨some 36, _, _, _, _, _⟩) rfl (fun K hK => ?_) AllReadyH.nil
    go_simp
    go_at_call 33
    refine (HB.out.rr _ _ HP5.out HF5.out).mono ?_
    rintro e w6 ⟨rfl, m6, hm6, hg6, hp6, hf6⟩
    have HZ6 := Lib.hid (And.intro hm6 (And.intro hg6 hp6))
    have HF6 : Hid (Fr (fun k => ¬ E k) wB w6) := HF5.out.trans hf6
    have s6 := KF w6 hp6.fr HF6.out
    clear hm6 hg6 hp6 hf6
    go_wp2_with fail
    refine hK.out _ _ ?_ (fun hHeld => ?_)
    · exact s6
    clear hK K
    try simp only [Act.put, List.setIfInBounds_toArray, List.set_cons_zero, List.set_cons_succ]
    refine wpAnyH_take (i := 12) (oi := ⟨some 37, _, _, _, _, _⟩) (v := ?_) rfl (by kernel_rfl) (by kernel_rfl) (by kernel_rfl) (fun _ _ _ h => h) (Or.inl ⟨by rfl, ?_⟩) (by assumption) ?_
    rotate_left 1
    · (intro w hSw; (try dsimp only at hSw); obtain ⟨hSa, hSb, hSc, hSd⟩ := hSw; go_simp) <;> (with_reducible rfl)
    try simp only [Act.put, List.setIfInBounds_toArray, List.set_cons_zero, List.set_cons_succ]
    refine wpAnyH_take (i := 13) (oi := ⟨some 6, _, _, _, _, _⟩) (v := ?_) rfl (by kernel_rfl) (by kernel_rfl) (by kernel_rfl) (fun _ _ _ h => h) (Or.inl ⟨by rfl, ?_⟩) (by assumption) ?_
    rotate_left 1
    · (intro w hSw; (try dsimp only at hSw); obtain ⟨hSa, hSb, hSc, hSd⟩ := hSw; go_simp) <;> (with_reducible rfl)
    try simp only [Act.put, List.setIfInBounds_toArray, List.set_cons_zero, List.set_cons_succ]
    refine wpAnyH_done (by kernel_rfl) ?_ _
    have HZ := Lib.hid (StepPost.of HZ6.out)
    go_wp2_with fail
    go_ret
    exact HZ.out
  by_cases h2 : q = 2
  · subst h2
    have HB := Lib.hid (both_remove (v := v) (wr := wB) (gd := gd) (E := E) HM.out HT.out nm hx1)
    go_upto_region 7 with fail
    rw [← HWB.out]
    clear HWB hq
    refine wp_region_held_drew (S := fun w' => w'.cell? ⟨wr.heap.size, 1, none⟩ = some (.int .i64 n) ∧ w'.cell? ⟨wr.heap.size, 2, none⟩ = some (.string (bstr nm)) ∧ w'.cell? ⟨wr.heap.size, 3, none⟩ = some (.string (bstr tt)) ∧ True) (by kernel_rfl) (by exact KF _ (HPB.out.nofr (Fr.refl _ _).drew).fr (Fr.refl _ _).drew) (fun hHeld => ?_)
    refine wpAnyH_take (i := 0) (oi := ⟨some 40, _, _, _, _, _⟩) (v := ?_) rfl (by kernel_rfl) (by kernel_rfl) (by kernel_rfl) (fun _ _ _ h => h) (Or.inl ⟨by rfl, ?_⟩) (by assumption) ?_
    rotate_left 1
    · (intro w hSw; (try dsimp only at hSw); obtain ⟨hSa, hSb, hSc, hSd⟩ := hSw; go_simp) <;> (with_reducible rfl)
    try simp only [Act.put, List.setIfInBounds_toArray, List.set_cons_zero, List.set_cons_succ]
    refine wpAnyH_take (i := 1) (oi := ⟨some 41, _, _, _, _, _⟩) (v := ?_) rfl (by kernel_rfl) (by kernel_rfl) (by kernel_rfl) (fun _ _ _ h => h) (Or.inl ⟨by rfl, ?_⟩) (by assumption) ?_
    rotate_left 1
    · (intro w hSw; (try dsimp only at hSw); obtain ⟨hSa, hSb, hSc, hSd⟩ := hSw; go_simp) <;> (with_reducible rfl)
    try simp only [Act.put, List.setIfInBounds_toArray, List.set_cons_zero, List.set_cons_succ]
    refine wpAnyH_take (i := 2) (oi := ⟨some 42, _, _, _, _, _⟩) (v := ?_) rfl (by kernel_rfl) (by kernel_rfl) (by kernel_rfl) (fun _ _ _ h => h) (Or.inl ⟨by rfl, ?_⟩) (by assumption) ?_
    rotate_left 1
    · (intro w hSw; (try dsimp only at hSw); obtain ⟨hSa, hSb, hSc, hSd⟩ := hSw; go_simp) <;> (with_reducible rfl)
    try simp only [Act.put, List.setIfInBounds_toArray, List.set_cons_zero, List.set_cons_succ]
    refine wpAnyH_take (i := 4) (oi := ⟨some 44, _, _, _, _, _⟩) (v := ?_) rfl (by kernel_rfl) (by kernel_rfl) (by kernel_rfl) (fun _ _ _ h => h) (Or.inl ⟨by rfl, ?_⟩) (by assumption) ?_
    rotate_left 1
    · (intro w hSw; (try dsimp only at hSw); obtain ⟨hSa, hSb, hSc, hSd⟩ := hSw; go_simp) <;> (with_reducible rfl)
    try simp only [Act.put, List.setIfInBounds_toArray, List.set_cons_zero, List.set_cons_succ]
    refine wpAnyH_take (i := 5) (oi := ⟨some 45, _, _, _, _, _⟩) (v := ?_) rfl (by kernel_rfl) (by kernel_rfl) (by kernel_rfl) (fun _ _ _ h => h) (Or.inl ⟨by rfl, ?_⟩) (by assumption) ?_
    rotate_left 1
    · (intro w hSw; (try dsimp only at hSw); obtain ⟨hSa, hSb, hSc, hSd⟩ := hSw; go_simp) <;> (with_reducible rfl)
    try simp only [Act.put, List.setIfInBounds_toArray, List.set_cons_zero, List.set_cons_succ]
    refine wpAnyH_take (i := 6) (oi := ⟨some 46, _, _, _, _, _⟩) (v := ?_) rfl (by kernel_rfl) (by kernel_rfl) (by kernel_rfl) (fun _ _ _ h => h) (Or.inl ⟨by rfl, ?_⟩) (by assumption) ?_
    rotate_left 1
    · (intro w hSw; (try dsimp only at hSw); obtain ⟨hSa, hSb, hSc, hSd⟩ := hSw; go_simp) <;> (with_reducible rfl)
    try simp only [Act.put, List.setIfInBounds_toArray, List.set_cons_zero, List.set_cons_succ]
    refine wpAnyH_ready (rs := [3]) (by kernel_rfl) (by simp) ?_
    refine AllReadyH.cons (o := ⟨some 43, _, _, _, _, _⟩) rfl (fun K hK => ?_) AllReadyH.nil
    go_simp
    go_at_call 26
    refine (HB.out.dd _ _ (HPB.out.nofr (Fr.refl _ _).drew) (Fr.refl _ _).drew).mono ?_
    rintro e w5 ⟨rfl, hp5, hf5⟩
    have HP5 := Lib.hid hp5
    have HF5 : Hid (Fr (fun k => ¬ E k) wB w5) := ((Fr.refl _ _).drew).trans hf5
    have s5 := KF w5 HP5.out.fr HF5.out
    clear hp5 hf5
    go_wp2_with fail
    refine hK.out _ _ ?_ (fun hHeld => ?_)
    · exact s5
    clear hK K
    try simp only [Act.put, List.setIfInBounds_toArray, List.set_cons_zero, List.set_cons_succ]
    refine wpAnyH_ready (rs := [7]) (by kernel_rfl) (by simp) ?_
    refine AllReadyH.cons (o := ⟨some 47, _, _, _, _, _⟩) rfl (fun K hK => ?_) AllReadyH.nil
    go_simp
    go_at_call 34
    refine (HB.out.rr _ _ HP5.out HF5.out).mono ?_
    rintro e w6 ⟨rfl, m6, hm6, hg6, hp6, hf6⟩
    have HZ6 := Lib.hid (And.intro hm6 (And.intro hg6 hp6))
    have HF6 : Hid (Fr (fun k => ¬ E k) wB w6) := HF5.out.trans hf6
    have s6 := KF w6 hp6.fr HF6.out
    clear hm6 hg6 hp6 hf6
    go_wp2_with fail
    refine hK.out _ _ ?_ (fun hHeld => ?_)
    · exact s6
    clear hK K
    try simp only [Act.put, List.setIfInBounds_toArray, List.set_cons_zero, List.set_cons_succ]
    refine wpAnyH_take (i := 8) (oi := ⟨some 48, _, _, _, _, _⟩) (v := ?_) rfl (by kernel_rfl) (by kernel_rfl) (by kernel_rfl) (fun _ _ _ h => h) (Or.inl ⟨by rfl, ?_⟩) (by assumption) ?_
    rotate_left 1
    · (intro w hSw; (try dsimp only at hSw); obtain ⟨hSa, hSb, hSc, hSd⟩ := hSw; go_simp) <;> (with_reducible rfl)
    try simp only [Act.put, List.setIfInBounds_toArray, List.set_cons_zero, List.set_cons_succ]
    refine wpAnyH_take (i := 9) (oi := ⟨some 6, _, _, _, _, _⟩) (v := ?_) rfl (by kernel_rfl) (by kernel_rfl) (by kernel_rfl) (fun _ _ _ h => h) (Or.inl ⟨by rfl, ?_⟩) (by assumption) ?_
    rotate_left 1
    · (intro w hSw; (try dsimp only at hSw); obtain ⟨hSa, hSb, hSc, hSd⟩ := hSw; go_simp) <;> (with_reducible rfl)
    try simp only [Act.put, List.setIfInBounds_toArray, List.set_cons_zero, List.set_cons_succ]
    refine wpAnyH_done (by kernel_rfl) ?_ _
    have HZ := Lib.hid (StepPost.of HZ6.out)
    go_wp2_with fail
    go_ret
    exact HZ.out
  by_cases h3 : q = 3
  · subst h3
    have HB := Lib.hid (both_cut (v := v) (wr := wB) (gd := gd) (E := E) HM.out HT.out nm hx1 n)
    go_upto_region 9 with fail
    rw [← HWB.out]
    clear HWB hq
    refine wp_region_held_drew (S := fun w' => w'.cell? ⟨wr.heap.size, 1, none⟩ = some (.int .i64 n) ∧ w'.cell? ⟨wr.heap.size, 2, none⟩ = some (.string (bstr nm)) ∧ w'.cell? ⟨wr.heap.size, 3, none⟩ = some (.string (bstr tt)) ∧ True) (by kernel_rfl) (by exact KF _ (HPB.out.nofr (Fr.refl _ _).drew).fr (Fr.refl _ _).drew) (fun hHeld => ?_)
    refine wpAnyH_take (i := 0) (oi := ⟨some 51, _, _, _, _, _⟩) (v := ?_) rfl (by kernel_rfl) (by kernel_rfl) (by kernel_rfl) (fun _ _ _ h => h) (Or.inl ⟨by rfl, ?_⟩) (by assumption) ?_
    rotate_left 1
    · (intro w hSw; (try dsimp only at hSw); obtain ⟨hSa, hSb, hSc, hSd⟩ := hSw; go_simp) <;> (with_reducible rfl)
    try simp only [Act.put, List.setIfInBounds_toArray, List.set_cons_zero, List.set_cons_succ]
    refine wpAnyH_take (i := 1) (oi := ⟨some 52, _, _, _, _, _⟩) (v := ?_) rfl (by kernel_rfl) (by kernel_rfl) (by kernel_rfl) (fun _ _ _ h => h) (Or.inl ⟨by rfl, ?_⟩) (by assumption) ?_
    rotate_left 1
    · (intro w hSw; (try dsimp only at hSw); obtain ⟨hSa, hSb, hSc, hSd⟩ := hSw; go_simp) <;> (with_reducible rfl)
    try simp only [Act.put, List.setIfInBounds_toArray, List.set_cons_zero, List.set_cons_succ]
    refine wpAnyH_take (i := 2) (oi := ⟨some 53, _, _, _, _, _⟩) (v := ?_) rfl (by kernel_rfl) (by kernel_rfl) (by kernel_rfl) (fun _ _ _ h => h) (Or.inl ⟨by rfl, ?_⟩) (by assumption) ?_
    rotate_left 1
    · (intro w hSw; (try dsimp only at hSw); obtain ⟨hSa, hSb, hSc, hSd⟩ := hSw; go_simp) <;> (with_reducible rfl)
    try simp only [Act.put, List.setIfInBounds_toArray, List.set_cons_zero, List.set_cons_succ]
    refine wpAnyH_take (i := 3) (oi := ⟨some 54, _, _, _, _, _⟩) (v := ?_) rfl (by kernel_rfl) (by kernel_rfl) (by kernel_rfl) (fun _ _ _ h => h) (Or.inl ⟨by rfl, ?_⟩) (by assumption) ?_
    rotate_left 1
    · (intro w hSw; (try dsimp only at hSw); obtain ⟨hSa, hSb, hSc, hSd⟩ := hSw; go_simp) <;> (with_reducible rfl)
    try simp only [Act.put, List.setIfInBounds_toArray, List.set_cons_zero, List.set_cons_succ]
    refine wpAnyH_take (i := 4) (oi := ⟨some 55, _, _, _, _, _⟩) (v := ?_) rfl (by kernel_rfl) (by kernel_rfl) (by kernel_rfl) (fun _ _ _ h => h) (Or.inl ⟨by rfl, ?_⟩) (by assumption) ?_
    rotate_left 1
    · (intro w hSw; (try dsimp only at hSw); obtain ⟨hSa, hSb, hSc, hSd⟩ := hSw; go_simp) <;> (with_reducible rfl)
    try simp only [Act.put, List.setIfInBounds_toArray, List.set_cons_zero, List.set_cons_succ]
    refine wpAnyH_take (i := 6) (oi := ⟨some 57, _, _, _, _, _⟩) (v := ?_) rfl (by kernel_rfl) (by kernel_rfl) (by kernel_rfl) (fun _ _ _ h => h) (Or.inl ⟨by rfl, ?_⟩) (by assumption) ?_
    rotate_left 1
    · (intro w hSw; (try dsimp only at hSw); obtain ⟨hSa, hSb, hSc, hSd⟩ := hSw; go_simp) <;> (with_reducible rfl)
    try simp only [Act.put, List.setIfInBounds_toArray, List.set_cons_zero, List.set_cons_succ]
    refine wpAnyH_take (i := 7) (oi := ⟨some 58, _, _, _, _, _⟩) (v := ?_) rfl (by kernel_rfl) (by kernel_rfl) (by kernel_rfl) (fun _ _ _ h => h) (Or.inl ⟨by rfl, ?_⟩) (by assumption) ?_
    rotate_left 1
    · (intro w hSw; (try dsimp only at hSw); obtain ⟨hSa, hSb, hSc, hSd⟩ := hSw; go_simp) <;> (with_reducible rfl)
    try simp only [Act.put, List.setIfInBounds_toArray, List.set_cons_zero, List.set_cons_succ]
    refine wpAnyH_take (i := 8) (oi := ⟨some 59, _, _, _, _, _⟩) (v := ?_) rfl (by kernel_rfl) (by kernel_rfl) (by kernel_rfl) (fun _ _ _ h => h) (Or.inl ⟨by rfl, ?_⟩) (by assumption) ?_
    rotate_left 1
    · (intro w hSw; (try dsimp only at hSw); obtain ⟨hSa, hSb, hSc, hSd⟩ := hSw; go_simp) <;> (with_reducible rfl)
    try simp only [Act.put, List.setIfInBounds_toArray, List.set_cons_zero, List.set_cons_succ]
    refine wpAnyH_take (i := 9) (oi := ⟨some 60, _, _, _, _, _⟩) (v := ?_) rfl (by kernel_rfl) (by kernel_rfl) (by kernel_rfl) (fun _ _ _ h => h) (Or.inl ⟨by rfl, ?_⟩) (by assumption) ?_
    rotate_left 1
    · (intro w hSw; (try dsimp only at hSw); obtain ⟨hSa, hSb, hSc, hSd⟩ := hSw; go_simp) <;> (with_reducible rfl)
    try simp only [Act.put, List.setIfInBounds_toArray, List.set_cons_zero, List.set_cons_succ]
    refine wpAnyH_take (i := 10) (oi := ⟨some 61, _, _, _, _, _⟩) (v := ?_) rfl (by kernel_rfl) (by kernel_rfl) (by kernel_rfl) (fun _ _ _ h => h) (Or.inl ⟨by rfl, ?_⟩) (by assumption) ?_
    rotate_left 1
    · (intro w hSw; (try dsimp only at hSw); obtain ⟨hSa, hSb, hSc, hSd⟩ := hSw; go_simp) <;> (with_reducible rfl)
    try simp only [Act.put, List.setIfInBounds_toArray, List.set_cons_zero, List.set_cons_succ]
    refine wpAnyH_ready (rs := [5]) (by kernel_rfl) (by simp) ?_
    refine AllReadyH.cons (o := ⟨some 56, _, _, _, _, _⟩) rfl (fun K hK => ?_) AllReadyH.nil
    go_simp
    go_at_call 35
    refine (HB.out.dd _ _ (HPB.out.nofr (Fr.refl _ _).drew) (Fr.refl _ _).drew).mono ?_
    rintro e w5 ⟨rfl, hp5, hf5⟩
    have HP5 := Lib.hid hp5
    have HF5 : Hid (Fr (fun k => ¬ E k) wB w5) := ((Fr.refl _ _).drew).trans hf5
    have s5 := KF w5 HP5.out.fr HF5.out
    clear hp5 hf5
    go_wp2_with fail
    refine hK.out _ _ ?_ (fun hHeld => ?_)
    · exact s5
    clear hK K
    try simp only [Act.put, List.setIfInBounds_toArray, List.set_cons_zero, List.set_cons_succ]
    refine wpAnyH_ready (rs := [11]) (by kernel_rfl) (by simp) ?_
    refine AllReadyH.cons (o := ⟨some 62, _, _, _, _, _⟩) rfl (fun K hK => ?_) AllReadyH.nil
    go_simp
    go_at_call 36
    refine (HB.out.rr _ _ HP5.out HF5.out).mono ?_
    rintro e w6 ⟨rfl, m6, hm6, hg6, hp6, hf6⟩
    have HZ6 := Lib.hid (And.intro hm6 (And.intro hg6 hp6))
    have HF6 : Hid (Fr (fun k => ¬ E k) wB w6) := HF5.out.trans hf6
    have s6 := KF w6 hp6.fr HF6.out
    clear hm6 hg6 hp6 hf6
    go_wp2_with fail
    refine hK.out _ _ ?_ (fun hHeld => ?_)
    · exact s6
    clear hK K
    try simp only [Act.put, List.setIfInBounds_toArray, List.set_cons_zero, List.set_cons_succ]
    refine wpAnyH_take (i := 12) (oi := ⟨some 63, _, _, _, _, _⟩) (v := ?_) rfl (by kernel_rfl) (by kernel_rfl) (by kernel_rfl) (fun _ _ _ h => h) (Or.inl ⟨by rfl, ?_⟩) (by assumption) ?_
    rotate_left 1
    · (intro w hSw; (try dsimp only at hSw); obtain ⟨hSa, hSb, hSc, hSd⟩ := hSw; go_simp) <;> (with_reducible rfl)
    try simp only [Act.put, List.setIfInBounds_toArray, List.set_cons_zero, List.set_cons_succ]
    refine wpAnyH_take (i := 13) (oi := ⟨some 6, _, _, _, _, _⟩) (v := ?_) rfl (by kernel_rfl) (by kernel_rfl) (by kernel_rfl) (fun _ _ _ h => h) (Or.inl ⟨by rfl, ?_⟩) (by assumption) ?_
    rotate_left 1
    · (intro w hSw; (try dsimp only at hSw); obtain ⟨hSa, hSb, hSc, hSd⟩ := hSw; go_simp) <;> (with_reducible rfl)
    try simp only [Act.put, List.setIfInBounds_toArray, List.set_cons_zero, List.set_cons_succ]
    refine wpAnyH_done (by kernel_rfl) ?_ _
    have HZ := Lib.hid (StepPost.of HZ6.out)
    go_wp2_with fail
    go_ret
    exact HZ.out
  by_cases h4 : q = 4
  · subst h4
    have HLD := Lib.hid (limitS HPB.out.ats n (rng_i64 HX3.out))
    go_upto_region 11 with fail
    rw [← HWB.out]
    clear HWB hq
    go_wp2_with fail
    refine HLD.out.mono ?_
    clear HLD
    rintro e w5 ⟨rfl, ha5, hf5⟩
    have HP5 := Lib.hid (HPB.out.disk ha5 hf5)
    have s5 : w5.cell? ⟨wr.heap.size, 1, none⟩ = some (.int .i64 n) := (KB w5 HP5.out.2).cell 1
    have HLR := Lib.hid (rlimit_any w5 _ m HP5.out.1.rin n)
    clear ha5 hf5 b0 b1 b4
    go_wp2_with fail
    refine HLR.out.mono ?_
    clear HLR
    rintro e w6 ⟨rfl, hp6⟩
    have HZ : Hid (StepPost v gd m (.returned (.bool true)) w6) := StepPost.of (p' := { p with left := n }) ⟨by
      have h1 := HM.out
      have e1 : m.room = p.room := congrArg PD.room h1
      have e2 : m.down = p.down := congrArg PD.down h1
      have e3 : m.pfs = p.files := congrArg PD.files h1
      show (⟨m.room, if n < 0 then -1 else n, m.down, m.pfs⟩ : PD) = _
      rw [e1, e2, e3]
      rfl, hp6.g, (HP5.out.1.ref hp6).1⟩
    clear hp6
    go_wp2_with fail
    go_ret
    exact HZ.out
  · have HDL : Hid ((cb vb).length = vb.length * 1) := by show _ = _; rw [cb_length, Nat.mul_one]
    have HDA : Hid (Rd (wB.alloc (.cells #[] 5)) va (cb vb)) := HV.out.1.nofr (HPB.out.fr.trans ((Fr.refl _ _).alloc _))
    have hvn := HV.out.2
    obtain ⟨d0, d1, d2, d3, d4⟩ : decide ((q : Int) = 0) = false ∧ decide ((q : Int) = 1) = false ∧ decide ((q : Int) = 2) = false ∧ decide ((q : Int) = 3) = false ∧ decide ((q : Int) = 4) = false := ⟨decide_eq_false (by omega), decide_eq_false (by omega), decide_eq_false (by omega), decide_eq_false (by omega), decide_eq_false (by omega)⟩
    have hs1 := hs.1
    go_upto_region 14 with fail
    rw [← HWB.out]
    clear HWB hq
    go_wp2_with (at_builtin; refine wpList_appB rfl _ _ 31 rfl 5 i0 _ 1 1 Try.underlying31 hi hz0 hz1 hz2 rfl (by decide) _ rfl va vc vb.length (cb vb) rfl HDL.out HDA.out (cb_one _) hvn (by unfold maxLen; omega) (by omega) ?_)
    intro B cB w4 hg4
    have HG := Lib.hid hg4.ofAlloc
    clear hg4 b0 b1 b4
    obtain ⟨E2, hE2⟩ : ∃ E2 : Nat → Prop, E2 = fun k => E k ∨ (ablk B k ∧ 0 < vb.length) := ⟨_, rfl⟩
    have HP4 : Hid (Pair v w4 gd p m E2) := HPB.out.more HG.out.got.fr fun k hk => by
      rw [hE2] at hk
      rcases hk with hk | ⟨hk, hp⟩
      · exact .inl hk
      · obtain ⟨g, e, hg⟩ := HG.out.got.new hp
        have h1 := HG.out.got.rd.lt (by rw [cb_length]; exact hp) hk
        obtain ⟨a, ea, ek⟩ := hk
        rw [ea] at e
        injection e with e
        subst e
        exact .inr ⟨by rw [← ek]; exact hg, h1⟩
    have hE2g : E2 wr.heap.size := by rw [hE2]; exact .inl hEg
    have HBE : Hid (∀ k, ablk B k ∧ 0 < vb.length → E2 k) := fun k hk => by rw [hE2]; exact .inr hk
    have HBK4 := Lib.hid (HBK.out.fr HG.out.got.fr fun h => h)
    have HKB : Hid (∀ W, Fr (fun k => ¬ E2 k) w4 W → Fsh W wB.heap.size B vb.length 5) := fun W hW hp => by
      obtain ⟨g, cs, e, hN, hb, hsz⟩ := HG.out.fsh (by omega)
      exact ⟨g, cs, e, hN, hb.fr hW fun hn => hn (HBE.out g ⟨⟨_, e, rfl⟩, hp⟩), by omega⟩
    have KF2 : ∀ W, Fr NoBlk v W → Fr (fun k => ¬ E2 k) w4 W → W.cell? ⟨wr.heap.size, 2, none⟩ = some (.string (bstr nm)) ∧ W.cell? ⟨wr.heap.size, 4, none⟩ = some (.slice va vb.length vc) ∧ (convert 31 9 (.slice B vb.length cB)).run Try.prog W = .ok (.string (bstr vb)) W ∧ (convert 31 9 (.slice va vb.length vc)).run Try.prog W = .ok (.string (bstr vb)) W := fun W hv hW =>
      have hb := HBK4.out.fr hW fun hn => hn hE2g
      ⟨hb.cell 2, hb.cell 4, strBs W B vb.length cB vb rfl (HG.out.got.rd.fr' hW fun hp k hk hn => hn (HBE.out k ⟨hk, by rwa [cb_length] at hp⟩)), strBs W va vb.length vc vb rfl (HV.out.1.nofr hv)⟩
    have HB := Lib.hid (both_append (v := v) (wr := w4) (gd := gd) (E := E2) HM.out HT.out nm hx1 va vc B cB vb (by omega) HV.out.1 HV.out.2 HG.out.got.rd HG.out.got.nil fun hp j hj => HBE.out j ⟨hj, hp⟩)
    clear hE2 hvn
    have e3 := bstr_toList vb
    go_wp2_with fail
    refine wp_region_held_drew (S := fun w' => w'.cell? ⟨wr.heap.size, 2, none⟩ = some (.string (bstr nm)) ∧ w'.cell? ⟨wr.heap.size, 4, none⟩ = some (.slice va vb.length vc) ∧ (convert 31 9 (.slice B vb.length cB)).run Try.prog w' = .ok (.string (bstr vb)) w' ∧ (convert 31 9 (.slice va vb.length vc)).run Try.prog w' = .ok (.string (bstr vb)) w') (by kernel_rfl) (by exact KF2 _ (HP4.out.nofr (Fr.refl _ _).drew).fr (Fr.refl _ _).drew) (fun hHeld => ?_)
    refine wpAnyH_take (i := 0) (oi := ⟨some 78, _, _, _, _, _⟩) (v := ?_) rfl (by kernel_rfl) (by kernel_rfl) (by kernel_rfl) (fun _ _ _ h => h) (Or.inl ⟨by rfl, ?_⟩) (by assumption) ?_
    rotate_left 1
    · (intro w hSw; (try dsimp only at hSw); obtain ⟨hSa, hSb, hSc, hSd⟩ := hSw; go_simp) <;> (with_reducible rfl)
    try simp only [Act.put, List.setIfInBounds_toArray, List.set_cons_zero, List.set_cons_succ]
    refine wpAnyH_take (i := 1) (oi := ⟨some 79, _, _, _, _, _⟩) (v := ?_) rfl (by kernel_rfl) (by kernel_rfl) (by kernel_rfl) (fun _ _ _ h => h) (Or.inl ⟨by rfl, ?_⟩) (by assumption) ?_
    rotate_left 1
    · (intro w hSw; (try dsimp only at hSw); obtain ⟨hSa, hSb, hSc, hSd⟩ := hSw; go_simp) <;> (with_reducible rfl)
    try simp only [Act.put, List.setIfInBounds_toArray, List.set_cons_zero, List.set_cons_succ]
    refine wpAnyH_take (i := 2) (oi := ⟨some 80, _, _, _, _, _⟩) (v := ?_) rfl (by kernel_rfl) (by kernel_rfl) (by kernel_rfl) (fun _ _ _ h => h) (Or.inl ⟨by rfl, ?_⟩) (by assumption) ?_
    rotate_left 1
    · (intro w hSw; (try dsimp only at hSw); obtain ⟨hSa, hSb, hSc, hSd⟩ := hSw; go_simp) <;> (with_reducible rfl)
    try simp only [Act.put, List.setIfInBounds_toArray, List.set_cons_zero, List.set_cons_succ]
    refine wpAnyH_take (i := 3) (oi := ⟨some 81, _, _, _, _, _⟩) (v := ?_) rfl (by kernel_rfl) (by kernel_rfl) (by kernel_rfl) (fun _ _ _ h => h) (Or.inl ⟨by rfl, ?_⟩) (by assumption) ?_
    rotate_left 1
    · (intro w hSw; (try dsimp only at hSw); obtain ⟨hSa, hSb, hSc, hSd⟩ := hSw; go_simp) <;> (with_reducible rfl)
    try simp only [Act.put, List.setIfInBounds_toArray, List.set_cons_zero, List.set_cons_succ]
    refine wpAnyH_take (i := 5) (oi := ⟨some 83, _, _, _, _, _⟩) (v := ?_) rfl (by kernel_rfl) (by kernel_rfl) (by kernel_rfl) (fun _ _ _ h => h) (Or.inl ⟨by rfl, ?_⟩) (by assumption) ?_
    rotate_left 1
    · (intro w hSw; (try dsimp only at hSw); obtain ⟨hSa, hSb, hSc, hSd⟩ := hSw; go_simp) <;> (with_reducible rfl)
    try simp only [Act.put, List.setIfInBounds_toArray, List.set_cons_zero, List.set_cons_succ]
    refine wpAnyH_take (i := 6) (oi := ⟨some 84, _, _, _, _, _⟩) (v := ?_) rfl (by kernel_rfl) (by kernel_rfl) (by kernel_rfl) (fun _ _ _ h => h) (Or.inl ⟨by rfl, ?_⟩) (by assumption) ?_
    rotate_left 1
    · (intro w hSw; (try dsimp only at hSw); obtain ⟨hSa, hSb, hSc, hSd⟩ := hSw; go_simp) <;> (with_reducible rfl)
    try simp only [Act.put, List.setIfInBounds_toArray, List.set_cons_zero, List.set_cons_succ]
    refine wpAnyH_take (i := 7) (oi := ⟨some 85, _, _, _, _, _⟩) (v := ?_) rfl (by kernel_rfl) (by kernel_rfl) (by kernel_rfl) (fun _ _ _ h => h) (Or.inl ⟨by rfl, ?_⟩) (by assumption) ?_
    rotate_left 1
    · (intro w hSw; (try dsimp only at hSw); obtain ⟨hSa, hSb, hSc, hSd⟩ := hSw; go_simp) <;> (with_reducible rfl)
    try simp only [Act.put, List.setIfInBounds_toArray, List.set_cons_zero, List.set_cons_succ]
    refine wpAnyH_take (i := 8) (oi := ⟨some 86, _, _, _, _, _⟩) (v := ?_) rfl (by kernel_rfl) (by kernel_rfl) (by kernel_rfl) (fun _ _ _ h => h) (Or.inl ⟨by rfl, ?_⟩) (by assumption) ?_
    rotate_left 1
    · (intro w hSw; (try dsimp only at hSw); obtain ⟨hSa, hSb, hSc, hSd⟩ := hSw; go_simp) <;> (with_reducible rfl)
    try simp only [Act.put, List.setIfInBounds_toArray, List.set_cons_zero, List.set_cons_succ]
    refine wpAnyH_take (i := 9) (oi := ⟨some 87, _, _, _, _, _⟩) (v := ?_) rfl (by kernel_rfl) (by kernel_rfl) (by kernel_rfl) (fun _ _ _ h => h) (Or.inl ⟨by rfl, ?_⟩) (by assumption) ?_
    rotate_left 1
    · (intro w hSw; (try dsimp only at hSw); obtain ⟨hSa, hSb, hSc, hSd⟩ := hSw; go_simp) <;> (with_reducible rfl)
    try simp only [Act.put, List.setIfInBounds_toArray, List.set_cons_zero, List.set_cons_succ]
    refine wpAnyH_ready (rs := [4]) (by kernel_rfl) (by simp) ?_
    refine AllReadyH.cons (o := ⟨some 82, _, _, _, _, _⟩) rfl (fun K hK => ?_) AllReadyH.nil
    go_simp
    go_at_call 18
    refine (HB.out.dd _ _ (HP4.out.nofr (Fr.refl _ _).drew) (Fr.refl _ _).drew).mono ?_
    rintro e w5 ⟨rfl, hp5, hf5⟩
    have HP5 := Lib.hid hp5
    have HF5 : Hid (Fr (fun k => ¬ E2 k) w4 w5) := ((Fr.refl _ _).drew).trans hf5
    have s5 := KF2 w5 HP5.out.fr HF5.out
    clear hp5 hf5
    go_wp2_with fail
    refine hK.out _ _ ?_ (fun hHeld => ?_)
    · exact s5
    clear hK K
    try simp only [Act.put, List.setIfInBounds_toArray, List.set_cons_zero, List.set_cons_succ]
    refine wpAnyH_ready (rs := [10]) (by kernel_rfl) (by simp) ?_
    refine AllReadyH.cons (o := ⟨some 88, _, _, _, _, _⟩) rfl (fun K hK => ?_) AllReadyH.nil
    go_simp
    go_at_call 38
    refine (HB.out.rr _ _ HP5.out HF5.out).mono ?_
    rintro e w6 ⟨rfl, m6, hm6, hg6, hp6, hf6⟩
    have HZ6 := Lib.hid (And.intro hm6 (And.intro hg6 hp6))
    have HF6 : Hid (Fr (fun k => ¬ E2 k) w4 w6) := HF5.out.trans hf6
    have s6 := KF2 w6 hp6.fr HF6.out
    clear hm6 hg6 hp6 hf6
    go_wp2_with fail
    refine hK.out _ _ ?_ (fun hHeld => ?_)
    · exact s6
    clear hK K
    try simp only [Act.put, List.setIfInBounds_toArray, List.set_cons_zero, List.set_cons_succ]
    refine wpAnyH_take (i := 11) (oi := ⟨some 89, _, _, _, _, _⟩) (v := ?_) rfl (by kernel_rfl) (by kernel_rfl) (by kernel_rfl) (fun _ _ _ h => h) (Or.inl ⟨by rfl, ?_⟩) (by assumption) ?_
    rotate_left 1
    · (intro w hSw; (try dsimp only at hSw); obtain ⟨hSa, hSb, hSc, hSd⟩ := hSw; go_simp) <;> (with_reducible rfl)
    try simp only [Act.put, List.setIfInBounds_toArray, List.set_cons_zero, List.set_cons_succ]
    refine wpAnyH_take (i := 12) (oi := ⟨some 90, _, _, _, _, _⟩) (v := ?_) rfl (by kernel_rfl) (by kernel_rfl) (by kernel_rfl) (fun _ _ _ h => h) (Or.inl ⟨by rfl, ?_⟩) (by assumption) ?_
    rotate_left 1
    · (intro w hSw; (try dsimp only at hSw); obtain ⟨hSa, hSb, hSc, hSd⟩ := hSw; go_simp) <;> (with_reducible rfl)
    try simp only [Act.put, List.setIfInBounds_toArray, List.set_cons_zero, List.set_cons_succ]
    refine wpAnyH_take (i := 13) (oi := ⟨some 91, _, _, _, _, _⟩) (v := ?_) rfl (by kernel_rfl) (by kernel_rfl) (by kernel_rfl) (fun _ _ _ h => h) (Or.inl ⟨by rfl, ?_⟩) (by assumption) ?_
    rotate_left 1
    · (intro w hSw; (try dsimp only at hSw); obtain ⟨hSa, hSb, hSc, hSd⟩ := hSw; go_simp) <;> (with_reducible rfl)
    try simp only [Act.put, List.setIfInBounds_toArray, List.set_cons_zero, List.set_cons_succ]
    refine wpAnyH_take (i := 14) (oi := ⟨some 92, _, _, _, _, _⟩) (v := ?_) rfl (by kernel_rfl) (by kernel_rfl) (by kernel_rfl) (fun _ _ _ h => h) (Or.inl ⟨by rfl, ?_⟩) (by assumption) ?_
    rotate_left 1
    · (intro w hSw; (try dsimp only at hSw); obtain ⟨hSa, hSb, hSc, hSd⟩ := hSw; go_simp) <;> (with_reducible rfl)
    try simp only [Act.put, List.setIfInBounds_toArray, List.set_cons_zero, List.set_cons_succ]
    refine wpAnyH_take (i := 15) (oi := ⟨some 93, _, _, _, _, _⟩) (v := ?_) rfl (by kernel_rfl) (by kernel_rfl) (by kernel_rfl) (fun _ _ _ h => h) (Or.inl ⟨by rfl, ?_⟩) (by assumption) ?_
    rotate_left 1
    · (intro w hSw; (try dsimp only at hSw); obtain ⟨hSa, hSb, hSc, hSd⟩ := hSw; go_simp) <;> (with_reducible rfl)
    try simp only [Act.put, List.setIfInBounds_toArray, List.set_cons_zero, List.set_cons_succ]
    refine wpAnyH_take (i := 16) (oi := ⟨some 94, _, _, _, _, _⟩) (v := ?_) rfl (by kernel_rfl) (by kernel_rfl) (by kernel_rfl) (fun _ _ _ h => h) (Or.inl ⟨by rfl, ?_⟩) (by assumption) ?_
    rotate_left 1
    · (intro w hSw; (try dsimp only at hSw); obtain ⟨hSa, hSb, hSc, hSd⟩ := hSw; go_simp) <;> (with_reducible rfl)
    try simp only [Act.put, List.setIfInBounds_toArray, List.set_cons_zero, List.set_cons_succ]
    refine wpAnyH_take (i := 17) (oi := ⟨some 95, _, _, _, _, _⟩) (v := ?_) rfl (by kernel_rfl) (by kernel_rfl) (by kernel_rfl) (fun _ _ _ h => h) (Or.inl ⟨by rfl, ?_⟩) (by assumption) ?_
    rotate_left 1
    · (intro w hSw; (try dsimp only at hSw); obtain ⟨hSa, hSb, hSc, hSd⟩ := hSw; go_simp) <;> (with_reducible rfl)
    try simp only [Act.put, List.setIfInBounds_toArray, List.set_cons_zero, List.set_cons_succ]
    refine wpAnyH_take (i := 18) (oi := ⟨some 96, _, _, _, _, _⟩) (v := ?_) rfl (by kernel_rfl) (by kernel_rfl) (by kernel_rfl) (fun _ _ _ h => h) (Or.inl ⟨by rfl, ?_⟩) (by assumption) ?_
    rotate_left 1
    · (intro w hSw; (try dsimp only at hSw); obtain ⟨hSa, hSb, hSc, hSd⟩ := hSw; go_simp) <;> (with_reducible rfl)
    try simp only [Act.put, List.setIfInBounds_toArray, List.set_cons_zero, List.set_cons_succ]
    refine wpAnyH_take (i := 19) (oi := ⟨some 97, _, _, _, _, _⟩) (v := ?_) rfl (by kernel_rfl) (by kernel_rfl) (by kernel_rfl) (fun _ _ _ h => h) (Or.inl ⟨by rfl, ?_⟩) (by assumption) ?_
    rotate_left 1
    · (intro w hSw; (try dsimp only at hSw); obtain ⟨hSa, hSb, hSc, hSd⟩ := hSw; go_simp) <;> (with_reducible rfl)
    try simp only [Act.put, List.setIfInBounds_toArray, List.set_cons_zero, List.set_cons_succ]
    refine wpAnyH_take (i := 20) (oi := ⟨some 8, _, _, _, _, _⟩) (v := ?_) rfl (by kernel_rfl) (by kernel_rfl) (by kernel_rfl) (fun _ _ _ h => h) (Or.inl ⟨by rfl, ?_⟩) (by assumption) ?_
    rotate_left 1
    · (intro w hSw; (try dsimp only at hSw); obtain ⟨hSa, hSb, hSc, hSd⟩ := hSw; go_simp) <;> (with_reducible rfl)
    try simp only [Act.put, List.setIfInBounds_toArray, List.set_cons_zero, List.set_cons_succ]
    refine wpAnyH_done (by kernel_rfl) ?_ _
    have HSP := Lib.hid (spoil3_any w6 wB.heap.size B vb.length cB (HKB.out w6 HF6.out) (by unfold maxLen; omega))
    go_wp2_with fail
    refine HSP.out.mono ?_
    clear HSP
    rintro e w7 ⟨rfl, hf7⟩
    have HZ := Lib.hid (StepPost.of ⟨HZ6.out.1, HZ6.out.2.1, HZ6.out.2.2.own hf7 fun k _ hk => HBE.out k hk⟩)
    go_wp2_with fail
    go_ret
    exact HZ.out
end Go.Proofs.Ytnmemdhajjibgaa
