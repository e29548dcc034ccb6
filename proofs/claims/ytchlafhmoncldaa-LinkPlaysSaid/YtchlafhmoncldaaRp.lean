/- The document's link: Packets. Conditions: it lies in blocks of its own. -/
import Derived.Test.YtchlafhmoncldaaRs
namespace Go.Proofs.Ytchlafhmoncldaa
open Go.RowKit Go.Maps Go.ChangeMaps Go.MapKept Go.WideShapes

/-- the packets of these data. -/
def PkSame (ep pe ba ex : Nat) (ds : List Bs) (xs : List Pk) : Prop :=
  if ds = [] then xs = [] else if pe = 0 then xs.map pkd = [(ep, 0, 0, 0, [])] else xs.length = ds.length ∧ ∀ j d, ds[j]? = some d → (xs[j]?).map pkd = some (ep, pe, (ba + j) % 2 ^ 64, akN ex, d)
theorem PkSame.eq {ep pe ba ex : Nat} {ds : List Bs} {xs ys : List Pk} (h : PkSame ep pe ba ex ds xs) (k : PkSame ep pe ba ex ds ys) : xs.map pkd = ys.map pkd := by
  unfold PkSame at h k
  by_cases hd : ds = []
  · rw [if_pos hd] at h k
    rw [h, k]
  · rw [if_neg hd] at h k
    by_cases hp : pe = 0
    · rw [if_pos hp] at h k
      rw [h, k]
    · rw [if_neg hp] at h k
      refine List.ext_getElem? fun j => ?_
      rw [List.getElem?_map, List.getElem?_map]
      by_cases hj : j < ds.length
      · obtain ⟨d, hd2⟩ : ∃ d, ds[j]? = some d := ⟨_, List.getElem?_eq_getElem hj⟩
        rw [h.2 j d hd2, k.2 j d hd2]
      · rw [List.getElem?_eq_none (by omega), List.getElem?_eq_none (by omega)]
theorem packets_same {L : Lk} {xs : List Pk} (h : PacketsAre L xs) (h0 : L.peer = 0 → L.expects = 1) : PkSame L.epoch L.peer L.base L.expects (L.sent.map (·.2.2)) xs := by
  unfold PacketsAre at h
  unfold PkSame
  by_cases hs : L.sent = []
  · rw [if_pos hs] at h
    rw [if_pos (by rw [hs]; rfl), h]
  · rw [if_neg hs] at h
    rw [if_neg (by simpa using hs)]
    by_cases hp : L.peer = 0
    · rw [if_pos hp] at h
      rw [if_pos hp]
      obtain ⟨x, rfl, a1, a2, a3, a4, a5⟩ := h
      rw [h0 hp] at a4
      simp only [List.map_cons, List.map_nil, pkd, a1, a2, a3, a4, a5]
      rfl
    · rw [if_neg hp] at h
      rw [if_neg hp]
      refine ⟨by rw [List.length_map]; exact h.1, fun j d hd => ?_⟩
      have hj := (List.getElem?_eq_some_iff.1 hd).1
      rw [List.length_map] at hj
      obtain ⟨x, hx⟩ : ∃ x, xs[j]? = some x := ⟨_, List.getElem?_eq_getElem (by rw [h.1]; exact hj)⟩
      obtain ⟨a1, a2, a3, a4, p, hp2, a5⟩ := h.2 j x hx
      rw [List.getElem?_map, hp2] at hd
      injection hd with hd
      rw [hx]
      simp only [Option.map_some, pkd, a1, a2, a3, a4, a5, hd]

def RPacketsPost (W : World) (R : Rk) (e : Ending) (W' : World) : Prop :=
  ∃ (A : Option Addr) (c : Nat) (xs : List Pk), e = .returned (.slice A xs.length c) ∧ PkRd W' A xs ∧ Fr NoBlk W W' ∧ PkSame R.ep R.pe R.ba R.ex (R.outs.map (·.2.2)) xs
set_option maxRecDepth 100000 in
set_option maxHeartbeats 4000000 in
theorem rpackets_any (W : World) (M : Nat → Prop) (m : Nat) (R : Rk) (h : RkIn M W m R) :
    Calls Try.prog 19 #[.pointer (some ⟨m, 0, none⟩)] W (RPacketsPost W R) := by
  obtain ⟨i0, hi, hz0, hz1, hz2⟩ := info_parts pkInfo
  have HL := Lib.hid h
  have HP : Hid (∀ e W', RPacketsPost W R e W' = ∃ (A : Option Addr) (c : Nat) (xs : List Pk), e = .returned (.slice A xs.length c) ∧ PkRd W' A xs ∧ Fr NoBlk W W' ∧ PkSame R.ep R.pe R.ba R.ex (R.outs.map (·.2.2)) xs) := fun _ _ => rfl
  have hfew := h.few.1
  obtain ⟨w1, hw1⟩ : ∃ w1, w1 = W.alloc (.cells #[] 32) := ⟨_, rfl⟩
  have HF1 : Hid (Fr NoBlk W w1) := by show Fr _ _ _; rw [hw1]; exact (Fr.refl _ _).alloc _
  have HO1 : Hid (w1.ownsRow W.heap.size 32 5 (.slice (some ⟨W.heap.size, 0, none⟩) 0 0) 0 []) := by show World.ownsRow _ _ _ _ _ _ _; rw [hw1]; exact World.ownsRow_made W #[] 0 (Nat.le_refl _) (by decide) rfl
  obtain ⟨c0, c1, c2, c3, c4, c5⟩ := (h.nofr HF1.out).cells
  clear h
  go_enter Try.func19, Try.ntmps19
  go_upto_region 2 with fail
  rw [← hw1]
  clear hw1
  by_cases hs : R.outs.length = 0
  · have HS : Hid (R.outs = []) := List.eq_nil_of_length_eq_zero hs
    have hs' : decide ((0 : Int) < (R.outs.length : Int)) = false := by simp [hs]
    have hs2 : ¬ (0 : Int) < (R.outs.length : Int) := by omega
    clear hs
    go_wp2_with fail
    go_loopw [3, 4] (fun s t wr => s = .slice (some ⟨W.heap.size, 0, none⟩) 0 0 ∧ t = .int .i64 0 ∧ wr = w1) (fun _ _ _ => 0)
    case atStart => exact ⟨rfl, rfl, rfl⟩
    case round =>
      obtain ⟨rfl, rfl, rfl⟩ := hrel
      go_wp2_with fail
      go_ret
      rw [HP.out]
      exact ⟨_, _, [], rfl, ⟨Rd.nil_ _ _, (fun _ h => by cases h), by simp⟩, HF1.out, by unfold PkSame; rw [if_pos (by rw [HS.out]; rfl)]⟩
  have HS : Hid (¬ R.outs.map (·.2.2) = []) := fun h => hs (by rw [← List.length_map (f := fun p : Prt => p.2.2), h]; rfl)
  have hs2 : (0 : Int) < (R.outs.length : Int) := by omega
  clear hs
  by_cases hp : R.pe = 0
  · have hp' : ((R.pe : Int) == 0) = true := by simp [hp]
    have HP0 := Lib.hid hp
    have HF2 : Hid (Fr NoBlk W (w1.alloc (.cells (pka ⟨R.ep, 0, 0, 0, none, 0, []⟩) 32))) := HF1.out.alloc _
    have HK2 : Hid (PkRd (w1.alloc (.cells (pka ⟨R.ep, 0, 0, 0, none, 0, []⟩) 32)) (some ⟨w1.heap.size, 0, none⟩) [⟨R.ep, 0, 0, 0, none, 0, []⟩]) := one_rd w1 ⟨R.ep, 0, 0, 0, none, 0, []⟩ (Rd.nil_ _ _)
    clear hp
    go_wp2_with fail
    go_ret
    rw [HP.out]
    exact ⟨_, _, [⟨R.ep, 0, 0, 0, none, 0, []⟩], rfl, HK2.out, HF2.out, by unfold PkSame; rw [if_neg HS.out, if_pos HP0.out]; rfl⟩
  have hp' : ((R.pe : Int) == 0) = false := by simp; omega
  have HP0 : Hid (¬ R.pe = 0) := hp
  clear hp c0 c1 c2 c3 c4 c5
  have c1 := (HL.out.nofr HF1.out).cells.2.1
  have c4 := (HL.out.nofr HF1.out).cells.2.2.2.2.1
  go_wp2_with fail
  clear c1 c4
  go_loopw [3, 4] (fun s t wr => ∃ (k : Nat) (A : Option Addr) (c : Nat) (xs : List Pk), k ≤ R.outs.length ∧ s = .slice A xs.length c ∧ t = .int .i64 (k : Int) ∧ Hid (xs.length = k ∧ ∀ (j : Nat) (x : Pk), xs[j]? = some x → ∃ p, R.outs[j]? = some p ∧ x = (⟨R.ep, R.pe, (R.ba + j) % 2 ^ 64, akN R.ex, p⟩ : Pk)) ∧ Hid (wr.ownsRow W.heap.size 32 5 (.slice A xs.length c) xs.length (pksc xs)) ∧ Hid (Fr NoBlk W wr)) (fun _ t _ => R.outs.length - (intOf t).toNat)
  case atStart => exact ⟨0, _, 0, [], by omega, rfl, rfl, ⟨rfl, fun j x h => by cases h⟩, HO1.out, HF1.out⟩
  case round =>
    obtain ⟨k, A, c, xs, hk, rfl, rfl, HXS, HO, HFW⟩ := hrel
    have hcr := (HL.out.nofr HFW.out).cells.2.2.2.2.1
    by_cases hlt : k < R.outs.length
    · obtain ⟨p, hpk⟩ : ∃ p, R.outs[k]? = some p := ⟨_, List.getElem?_eq_getElem hlt⟩
      obtain ⟨b, o, hA, _⟩ := (HL.out.nofr HFW.out).out.rd.at_ (k := k) (v := sl p) (by rw [List.getElem?_map, hpk]; rfl)
      obtain ⟨sq, hsq⟩ : ∃ sq, sq = (R.ba + k) % 2 ^ 64 := ⟨_, rfl⟩
      have HSQ := Lib.hid hsq
      have HPK := Lib.hid hpk
      have HXL : Hid (xs.length ≤ 16) := by have := HXS.out.1; show _ ≤ _; omega
      have e1 : ((k : Int) % 18446744073709551616) = k := by omega
      have e2 : IntKind.u64.wrap ((R.ba : Int) + (k : Int)) = (sq : Int) := by
        simp only [IntKind.wrap, IntKind.bits, IntKind.signed]
        simp
        omega
      have e3 : ((R.ba : Int) + (k : Int)) % 18446744073709551616 = (sq : Int) := by omega
      have e6 : IntKind.u64.wrap (k : Int) = (k : Int) := by
        simp only [IntKind.wrap, IntKind.bits, IntKind.signed]
        simp
        omega
      have e4 := akN_wrap HL.out.nums.2.2.2
      have e5 : ((R.ex : Int) - 1) % 18446744073709551616 = ((akN R.ex : Nat) : Int) := by
        have := HL.out.nums.2.2.2
        unfold akN
        split <;> omega
      have hkc : k < R.co := by have := HL.out.outc.1; omega
      have HSK : Hid (∀ w', Fr (fun k => (Value.slice A xs.length c).ownBlock = some k) wr w' → w'.cell? ⟨m, 0, none⟩ = some (.int .u64 (R.ep : Int)) ∧ w'.cell? ⟨m, 1, none⟩ = some (.int .u64 (R.pe : Int)) ∧ w'.cell? ⟨m, 2, none⟩ = some (.int .u64 (R.ba : Int)) ∧ w'.cell? ⟨m, 3, none⟩ = some (.int .u64 (R.ex : Int)) ∧ w'.cell? ⟨m, 4, none⟩ = some (.slice (some ⟨b, o, none⟩) R.outs.length R.co) ∧ w'.cell? ⟨m, 5, none⟩ = some (.slice R.ae R.ers.length R.ce) ∧ w'.cell? ⟨b, o + k, none⟩ = some (.slice p.1 p.2.2.length p.2.1)) := fun w' hf => by
        have h9 := (HL.out.nofr HFW.out).fr hf (fun j hj e => by
          have := (own_blk HO.out e).1
          rcases hj with hj | hj
          · have := HL.out.ml j hj; omega
          · have := HL.out.bk.lt; omega)
        obtain ⟨s0, s1, s2, s3, s4, s5⟩ := h9.cells
        obtain ⟨b', o', hA', hc'⟩ := h9.out.rd.at_ (k := k) (v := sl p) (by rw [List.getElem?_map, HPK.out]; rfl)
        rw [hA] at hA' s4
        injection hA' with hA'
        injection hA' with q1 q2
        subst q1 q2
        exact ⟨s0, s1, s2, s3, s4, s5, hc'⟩
      clear hsq hpk hA
      go_upto_region 7 with fail
      refine wp_region_held_drew (S := fun w' => Fr (fun k => (Value.slice A xs.length c).ownBlock = some k) wr w') (by kernel_rfl) (by exact (Fr.refl _ wr).drew) (fun hHeld => ?_)
      obtain ⟨w6, hw6⟩ : ∃ w6, w6 = wr.drew := ⟨_, rfl⟩
      have HF6 : Hid (Fr NoBlk wr w6) := by show Fr _ _ _; rw [hw6]; exact (Fr.refl NoBlk wr).drew
      rw [← hw6] at hHeld ⊢
      clear hw6
      refine wpAnyH_take (i := 0) (oi := ⟨some 34, _, _, _, _, _⟩) (v := ?_) rfl (by kernel_rfl) (by kernel_rfl) (by kernel_rfl) (fun _ _ _ h => h) (Or.inl ⟨by rfl, ?_⟩) (by assumption) ?_
      rotate_left 1
      · (intro w hSw; (try dsimp only at hSw); obtain ⟨s0, s1, s2, s3, s4, s5, t0⟩ := HSK.out _ hSw; go_simp) <;> (with_reducible rfl)
      try simp only [Act.put, List.setIfInBounds_toArray, List.set_cons_zero, List.set_cons_succ]
      refine wpAnyH_take (i := 1) (oi := ⟨some 35, _, _, _, _, _⟩) (v := ?_) rfl (by kernel_rfl) (by kernel_rfl) (by kernel_rfl) (fun _ _ _ h => h) (Or.inl ⟨by rfl, ?_⟩) (by assumption) ?_
      rotate_left 1
      · (intro w hSw; (try dsimp only at hSw); obtain ⟨s0, s1, s2, s3, s4, s5, t0⟩ := HSK.out _ hSw; go_simp) <;> (with_reducible rfl)
      try simp only [Act.put, List.setIfInBounds_toArray, List.set_cons_zero, List.set_cons_succ]
      refine wpAnyH_take (i := 2) (oi := ⟨some 36, _, _, _, _, _⟩) (v := ?_) rfl (by kernel_rfl) (by kernel_rfl) (by kernel_rfl) (fun _ _ _ h => h) (Or.inl ⟨by rfl, ?_⟩) (by assumption) ?_
      rotate_left 1
      · (intro w hSw; (try dsimp only at hSw); obtain ⟨s0, s1, s2, s3, s4, s5, t0⟩ := HSK.out _ hSw; go_simp) <;> (with_reducible rfl)
      try simp only [Act.put, List.setIfInBounds_toArray, List.set_cons_zero, List.set_cons_succ]
      refine wpAnyH_take (i := 3) (oi := ⟨some 37, _, _, _, _, _⟩) (v := ?_) rfl (by kernel_rfl) (by kernel_rfl) (by kernel_rfl) (fun _ _ _ h => h) (Or.inl ⟨by rfl, ?_⟩) (by assumption) ?_
      rotate_left 1
      · (intro w hSw; (try dsimp only at hSw); obtain ⟨s0, s1, s2, s3, s4, s5, t0⟩ := HSK.out _ hSw; go_simp) <;> (with_reducible rfl)
      try simp only [Act.put, List.setIfInBounds_toArray, List.set_cons_zero, List.set_cons_succ]
      refine wpAnyH_take (i := 4) (oi := ⟨some 38, _, _, _, _, _⟩) (v := ?_) rfl (by kernel_rfl) (by kernel_rfl) (by kernel_rfl) (fun _ _ _ h => h) (Or.inl ⟨by rfl, ?_⟩) (by assumption) ?_
      rotate_left 1
      · (intro w hSw; (try dsimp only at hSw); obtain ⟨s0, s1, s2, s3, s4, s5, t0⟩ := HSK.out _ hSw; go_simp) <;> (with_reducible rfl)
      try simp only [Act.put, List.setIfInBounds_toArray, List.set_cons_zero, List.set_cons_succ]
      refine wpAnyH_take (i := 5) (oi := ⟨some 39, _, _, _, _, _⟩) (v := ?_) rfl (by kernel_rfl) (by kernel_rfl) (by kernel_rfl) (fun _ _ _ h => h) (Or.inl ⟨by rfl, ?_⟩) (by assumption) ?_
      rotate_left 1
      · (intro w hSw; (try dsimp only at hSw); obtain ⟨s0, s1, s2, s3, s4, s5, t0⟩ := HSK.out _ hSw; go_simp) <;> (with_reducible rfl)
      try simp only [Act.put, List.setIfInBounds_toArray, List.set_cons_zero, List.set_cons_succ]
      refine wpAnyH_take (i := 6) (oi := ⟨some 40, _, _, _, _, _⟩) (v := ?_) rfl (by kernel_rfl) (by kernel_rfl) (by kernel_rfl) (fun _ _ _ h => h) (Or.inl ⟨by rfl, ?_⟩) (by assumption) ?_
      rotate_left 1
      · (intro w hSw; (try dsimp only at hSw); obtain ⟨s0, s1, s2, s3, s4, s5, t0⟩ := HSK.out _ hSw; go_simp) <;> (with_reducible rfl)
      try simp only [Act.put, List.setIfInBounds_toArray, List.set_cons_zero, List.set_cons_succ]
      refine wpAnyH_take (i := 7) (oi := ⟨some 41, _, _, _, _, _⟩) (v := ?_) rfl (by kernel_rfl) (by kernel_rfl) (by kernel_rfl) (fun _ _ _ h => h) (Or.inl ⟨by rfl, ?_⟩) (by assumption) ?_
      rotate_left 1
      · (intro w hSw; (try dsimp only at hSw); obtain ⟨s0, s1, s2, s3, s4, s5, t0⟩ := HSK.out _ hSw; go_simp) <;> (with_reducible rfl)
      try simp only [Act.put, List.setIfInBounds_toArray, List.set_cons_zero, List.set_cons_succ]
      refine wpAnyH_take (i := 8) (oi := ⟨some 42, _, _, _, _, _⟩) (v := ?_) rfl (by kernel_rfl) (by kernel_rfl) (by kernel_rfl) (fun _ _ _ h => h) (Or.inl ⟨by rfl, ?_⟩) (by assumption) ?_
      rotate_left 1
      · (intro w hSw; (try dsimp only at hSw); obtain ⟨s0, s1, s2, s3, s4, s5, t0⟩ := HSK.out _ hSw; go_simp) <;> (with_reducible rfl)
      try simp only [Act.put, List.setIfInBounds_toArray, List.set_cons_zero, List.set_cons_succ]
      refine wpAnyH_take (i := 9) (oi := ⟨some 43, _, _, _, _, _⟩) (v := ?_) rfl (by kernel_rfl) (by kernel_rfl) (by kernel_rfl) (fun _ _ _ h => h) (Or.inl ⟨by rfl, ?_⟩) (by assumption) ?_
      rotate_left 1
      · (intro w hSw; (try dsimp only at hSw); obtain ⟨s0, s1, s2, s3, s4, s5, t0⟩ := HSK.out _ hSw; go_simp) <;> (with_reducible rfl)
      try simp only [Act.put, List.setIfInBounds_toArray, List.set_cons_zero, List.set_cons_succ]
      refine wpAnyH_take (i := 10) (oi := ⟨some 44, _, _, _, _, _⟩) (v := ?_) rfl (by kernel_rfl) (by kernel_rfl) (by kernel_rfl) (fun _ _ _ h => h) (Or.inl ⟨by rfl, ?_⟩) (by assumption) ?_
      rotate_left 1
      · (intro w hSw; (try dsimp only at hSw); obtain ⟨s0, s1, s2, s3, s4, s5, t0⟩ := HSK.out _ hSw; go_simp) <;> (with_reducible rfl)
      try simp only [Act.put, List.setIfInBounds_toArray, List.set_cons_zero, List.set_cons_succ]
      refine wpAnyH_take (i := 11) (oi := ⟨some 45, _, _, _, _, _⟩) (v := ?_) rfl (by kernel_rfl) (by kernel_rfl) (by kernel_rfl) (fun _ _ _ h => h) (Or.inl ⟨by rfl, ?_⟩) (by assumption) ?_
      rotate_left 1
      · (intro w hSw; (try dsimp only at hSw); obtain ⟨s0, s1, s2, s3, s4, s5, t0⟩ := HSK.out _ hSw; go_simp) <;> (with_reducible rfl)
      try simp only [Act.put, List.setIfInBounds_toArray, List.set_cons_zero, List.set_cons_succ]
      refine wpAnyH_take (i := 12) (oi := ⟨some 46, _, _, _, _, _⟩) (v := ?_) rfl (by kernel_rfl) (by kernel_rfl) (by kernel_rfl) (fun _ _ _ h => h) (Or.inl ⟨by rfl, ?_⟩) (by assumption) ?_
      rotate_left 1
      · (intro w hSw; (try dsimp only at hSw); obtain ⟨s0, s1, s2, s3, s4, s5, t0⟩ := HSK.out _ hSw; go_simp) <;> (with_reducible rfl)
      try simp only [Act.put, List.setIfInBounds_toArray, List.set_cons_zero, List.set_cons_succ]
      refine wpAnyH_take (i := 13) (oi := ⟨some 47, _, _, _, _, _⟩) (v := ?_) rfl (by kernel_rfl) (by kernel_rfl) (by kernel_rfl) (fun _ _ _ h => h) (Or.inl ⟨by rfl, ?_⟩) (by assumption) ?_
      rotate_left 1
      · (intro w hSw; (try dsimp only at hSw); obtain ⟨s0, s1, s2, s3, s4, s5, t0⟩ := HSK.out _ hSw; go_simp) <;> (with_reducible rfl)
      try simp only [Act.put, List.setIfInBounds_toArray, List.set_cons_zero, List.set_cons_succ]
      refine wpAnyH_take (i := 14) (oi := ⟨some 48, _, _, _, _, _⟩) (v := ?_) rfl (by kernel_rfl) (by kernel_rfl) (by kernel_rfl) (fun _ _ _ h => h) (Or.inl ⟨by rfl, ?_⟩) (by assumption) ?_
      rotate_left 1
      · (intro w hSw; (try dsimp only at hSw); obtain ⟨s0, s1, s2, s3, s4, s5, t0⟩ := HSK.out _ hSw; go_simp) <;> (with_reducible rfl)
      try simp only [Act.put, List.setIfInBounds_toArray, List.set_cons_zero, List.set_cons_succ]
      refine wpAnyH_take (i := 15) (oi := ⟨some 49, _, _, _, _, _⟩) (v := ?_) rfl (by kernel_rfl) (by kernel_rfl) (by kernel_rfl) (fun _ _ _ h => h) (Or.inl ⟨by rfl, ?_⟩) (by assumption) ?_
      rotate_left 1
      · (intro w hSw; (try dsimp only at hSw); obtain ⟨s0, s1, s2, s3, s4, s5, t0⟩ := HSK.out _ hSw; go_simp) <;> (with_reducible rfl)
      try simp only [Act.put, List.setIfInBounds_toArray, List.set_cons_zero, List.set_cons_succ]
      refine wpAnyH_take (i := 16) (oi := ⟨some 50, _, _, _, _, _⟩) (v := ?_) rfl (by kernel_rfl) (by kernel_rfl) (by kernel_rfl) (fun _ _ _ h => h) (Or.inl ⟨by rfl, ?_⟩) (by assumption) ?_
      rotate_left 1
      · (intro w hSw; (try dsimp only at hSw); obtain ⟨s0, s1, s2, s3, s4, s5, t0⟩ := HSK.out _ hSw; go_simp) <;> (with_reducible rfl)
      try simp only [Act.put, List.setIfInBounds_toArray, List.set_cons_zero, List.set_cons_succ]
      refine wpAnyH_take (i := 17) (oi := ⟨some 51, _, _, _, _, _⟩) (v := ?_) rfl (by kernel_rfl) (by kernel_rfl) (by kernel_rfl) (fun _ _ _ h => h) (Or.inl ⟨by rfl, ?_⟩) (by assumption) ?_
      rotate_left 1
      · (intro w hSw; (try dsimp only at hSw); obtain ⟨s0, s1, s2, s3, s4, s5, t0⟩ := HSK.out _ hSw; go_simp) <;> (with_reducible rfl)
      try simp only [Act.put, List.setIfInBounds_toArray, List.set_cons_zero, List.set_cons_succ]
      refine wpAnyH_take (i := 18) (oi := ⟨some 52, _, _, _, _, _⟩) (v := ?_) rfl (by kernel_rfl) (by kernel_rfl) (by kernel_rfl) (fun _ _ _ h => h) (Or.inl ⟨by rfl, ?_⟩) (by assumption) ?_
      rotate_left 1
      · (intro w hSw; (try dsimp only at hSw); obtain ⟨s0, s1, s2, s3, s4, s5, t0⟩ := HSK.out _ hSw; go_simp) <;> (with_reducible rfl)
      try simp only [Act.put, List.setIfInBounds_toArray, List.set_cons_zero, List.set_cons_succ]
      refine wpAnyH_take (i := 19) (oi := ⟨some 53, _, _, _, _, _⟩) (v := ?_) rfl (by kernel_rfl) (by kernel_rfl) (by kernel_rfl) (fun _ _ _ h => h) (Or.inl ⟨by rfl, ?_⟩) (by assumption) ?_
      rotate_left 1
      · (intro w hSw; (try dsimp only at hSw); obtain ⟨s0, s1, s2, s3, s4, s5, t0⟩ := HSK.out _ hSw; go_simp) <;> (with_reducible rfl)
      try simp only [Act.put, List.setIfInBounds_toArray, List.set_cons_zero, List.set_cons_succ]
      refine wpAnyH_take (i := 20) (oi := ⟨some 54, _, _, _, _, _⟩) (v := ?_) rfl (by kernel_rfl) (by kernel_rfl) (by kernel_rfl) (fun _ _ _ h => h) (Or.inl ⟨by rfl, ?_⟩) (by assumption) ?_
      rotate_left 1
      · (intro w hSw; (try dsimp only at hSw); obtain ⟨s0, s1, s2, s3, s4, s5, t0⟩ := HSK.out _ hSw; go_simp) <;> (with_reducible rfl)
      try simp only [Act.put, List.setIfInBounds_toArray, List.set_cons_zero, List.set_cons_succ]
      refine wpAnyH_take (i := 21) (oi := ⟨some 55, _, _, _, _, _⟩) (v := ?_) rfl (by kernel_rfl) (by kernel_rfl) (by kernel_rfl) (fun _ _ _ h => h) (Or.inl ⟨by rfl, ?_⟩) (by assumption) ?_
      rotate_left 1
      · (intro w hSw; (try dsimp only at hSw); obtain ⟨s0, s1, s2, s3, s4, s5, t0⟩ := HSK.out _ hSw; go_simp) <;> (with_reducible rfl)
      try simp only [Act.put, List.setIfInBounds_toArray, List.set_cons_zero, List.set_cons_succ]
      refine wpAnyH_take (i := 22) (oi := ⟨some 56, _, _, _, _, _⟩) (v := ?_) rfl (by kernel_rfl) (by kernel_rfl) (by kernel_rfl) (fun _ _ _ h => h) (Or.inl ⟨by rfl, ?_⟩) (by assumption) ?_
      rotate_left 1
      · (intro w hSw; (try dsimp only at hSw); obtain ⟨s0, s1, s2, s3, s4, s5, t0⟩ := HSK.out _ hSw; go_simp) <;> (with_reducible rfl)
      try simp only [Act.put, List.setIfInBounds_toArray, List.set_cons_zero, List.set_cons_succ]
      refine wpAnyH_take (i := 23) (oi := ⟨some 57, _, _, _, _, _⟩) (v := ?_) rfl (by kernel_rfl) (by kernel_rfl) (by kernel_rfl) (fun _ _ _ h => h) (Or.inl ⟨by rfl, ?_⟩) (by assumption) ?_
      rotate_left 1
      · (intro w hSw; (try dsimp only at hSw); obtain ⟨s0, s1, s2, s3, s4, s5, t0⟩ := HSK.out _ hSw; go_simp) <;> (with_reducible rfl)
      try simp only [Act.put, List.setIfInBounds_toArray, List.set_cons_zero, List.set_cons_succ]
      refine wpAnyH_take (i := 24) (oi := ⟨some 58, _, _, _, _, _⟩) (v := ?_) rfl (by kernel_rfl) (by kernel_rfl) (by kernel_rfl) (fun _ _ _ h => h) (Or.inl ⟨by rfl, ?_⟩) (by assumption) ?_
      rotate_left 1
      · (intro w hSw; (try dsimp only at hSw); obtain ⟨s0, s1, s2, s3, s4, s5, t0⟩ := HSK.out _ hSw; go_simp) <;> (with_reducible rfl)
      try simp only [Act.put, List.setIfInBounds_toArray, List.set_cons_zero, List.set_cons_succ]
      refine wpAnyH_take (i := 25) (oi := ⟨some 59, _, _, _, _, _⟩) (v := ?_) rfl (by kernel_rfl) (by kernel_rfl) (by kernel_rfl) (fun _ _ _ h => h) (Or.inl ⟨by rfl, ?_⟩) (by assumption) ?_
      rotate_left 1
      · (intro w hSw; (try dsimp only at hSw); obtain ⟨s0, s1, s2, s3, s4, s5, t0⟩ := HSK.out _ hSw; go_simp) <;> (with_reducible rfl)
      try simp only [Act.put, List.setIfInBounds_toArray, List.set_cons_zero, List.set_cons_succ]
      refine wpAnyH_take (i := 26) (oi := ⟨some 60, _, _, _, _, _⟩) (v := ?_) rfl (by kernel_rfl) (by kernel_rfl) (by kernel_rfl) (fun _ _ _ h => h) (Or.inl ⟨by rfl, ?_⟩) (by assumption) ?_
      rotate_left 1
      · (intro w hSw; (try dsimp only at hSw); obtain ⟨s0, s1, s2, s3, s4, s5, t0⟩ := HSK.out _ hSw; go_simp) <;> (with_reducible rfl)
      try simp only [Act.put, List.setIfInBounds_toArray, List.set_cons_zero, List.set_cons_succ]
      refine wpAnyH_take (i := 27) (oi := ⟨some 61, _, _, _, _, _⟩) (v := ?_) rfl (by kernel_rfl) (by kernel_rfl) (by kernel_rfl) (fun _ _ _ h => h) (Or.inl ⟨by rfl, ?_⟩) (by assumption) ?_
      rotate_left 1
      · (intro w hSw; (try dsimp only at hSw); obtain ⟨s0, s1, s2, s3, s4, s5, t0⟩ := HSK.out _ hSw; go_simp) <;> (with_reducible rfl)
      try simp only [Act.put, List.setIfInBounds_toArray, List.set_cons_zero, List.set_cons_succ]
      refine wpAnyH_take (i := 28) (oi := ⟨some 62, _, _, _, _, _⟩) (v := ?_) rfl (by kernel_rfl) (by kernel_rfl) (by kernel_rfl) (fun _ _ _ h => h) (Or.inl ⟨by rfl, ?_⟩) (by assumption) ?_
      rotate_left 1
      · (intro w hSw; (try dsimp only at hSw); obtain ⟨s0, s1, s2, s3, s4, s5, t0⟩ := HSK.out _ hSw; go_simp) <;> (with_reducible rfl)
      try simp only [Act.put, List.setIfInBounds_toArray, List.set_cons_zero, List.set_cons_succ]
      refine wpAnyH_ready (rs := [29]) (by kernel_rfl) (by simp) ?_
      refine AllReadyH.cons (o := ⟨some 63, _, _, _, _, _⟩) rfl (fun K hK => ?_) AllReadyH.nil
      go_simp
      refine hK.out _ _ ?_ (fun hHeld => ?_)
      · exact Fr.alloc (Fr.mono HF6.out fun _ _ e => e.elim) _
      clear hK K
      try simp only [Act.put, List.setIfInBounds_toArray, List.set_cons_zero, List.set_cons_succ]
      refine wpAnyH_ready (rs := [30]) (by kernel_rfl) (by simp) ?_
      refine AllReadyH.cons (o := ⟨some 64, _, _, _, _, _⟩) rfl (fun K hK => ?_) AllReadyH.nil
      have HR8 : Hid (Rd (w6.alloc (.cells #[.int .u64 (R.ep : Int), .int .u64 (R.pe : Int), .int .u64 (sq : Int), .int .u64 (akN R.ex : Int), .slice p.1 p.2.2.length p.2.1] 32)) (some ⟨w6.heap.size, 0, none⟩) (pkc ⟨R.ep, R.pe, sq, akN R.ex, p⟩)) := Rd.of_cells (Bk.new w6 _ _)
      have hfa : Fr NoBlk wr (w6.alloc (.cells #[.int .u64 (R.ep : Int), .int .u64 (R.pe : Int), .int .u64 (sq : Int), .int .u64 (akN R.ex : Int), .slice p.1 p.2.2.length p.2.1] 32)) := HF6.out.alloc _
      refine step_appO rfl _ _ 39 rfl W.heap.size 32 i0 _ 5 56 Try.underlying39 hi hz0 hz1 hz2 rfl (by decide) (.slice A xs.length c) xs.length (pksc xs) rfl (own_fr HO.out hfa (fun _ _ h => h)) ⟨w6.heap.size, 0, none⟩ 1 1 (pkc ⟨R.ep, R.pe, sq, akN R.ex, p⟩) rfl rfl HR8.out ?q1 ?q2 ?q3 ?q4 ?_
      case q1 => intro y hy; simp only [pkc, List.mem_cons, List.not_mem_nil, or_false] at hy; rcases hy with rfl | rfl | rfl | rfl | rfl <;> rfl
      case q2 => have := HXL.out; unfold maxLen; omega
      case q3 => have := HXL.out; omega
      case q4 => exact (HFW.out.trans hfa).size
      intro v9 w9 ho9 hg9 _
      obtain ⟨A9, c9, rfl, _, _⟩ := own_form ho9
      have HO9 : Hid (w9.ownsRow W.heap.size 32 5 (.slice A9 (xs ++ [(⟨R.ep, R.pe, sq, akN R.ex, p⟩ : Pk)]).length c9) (xs ++ [(⟨R.ep, R.pe, sq, akN R.ex, p⟩ : Pk)]).length (pksc (xs ++ [(⟨R.ep, R.pe, sq, akN R.ex, p⟩ : Pk)]))) := by
        show World.ownsRow _ _ _ _ _ _ _
        rw [List.length_append, pksc_append, show pksc [⟨R.ep, R.pe, sq, akN R.ex, p⟩] = pkc ⟨R.ep, R.pe, sq, akN R.ex, p⟩ by simp [pksc]]
        exact ho9
      have hS9 : Fr (fun k => (Value.slice A xs.length c).ownBlock = some k) wr w9 := (hfa.mono fun _ _ e => e.elim).grown hg9 fun k hk _ => hk
      have HF9 : Hid (Fr NoBlk W w9) := (HFW.out.trans hfa).grown hg9 fun k hk hlt => by have := (own_blk HO.out hk).1; omega
      have hl9 : xs.length + 1 = (xs ++ [(⟨R.ep, R.pe, sq, akN R.ex, p⟩ : Pk)]).length := by simp
      rw [hl9]
      clear ho9 hg9 hfa hl9 hHeld
      refine hK.out _ _ ?_ (fun hHeld => ?_)
      · exact hS9
      clear hK K
      try simp only [Act.put, List.setIfInBounds_toArray, List.set_cons_zero, List.set_cons_succ]
      refine wpAnyH_take (i := 31) (oi := ⟨some 3, _, _, _, _, _⟩) (v := ?_) rfl (by kernel_rfl) (by kernel_rfl) (by kernel_rfl) (fun _ _ _ h => h) (Or.inl ⟨by rfl, ?_⟩) (by assumption) ?_
      rotate_left 1
      · (intro w hSw; (try dsimp only at hSw); go_simp) <;> (with_reducible rfl)
      try simp only [Act.put, List.setIfInBounds_toArray, List.set_cons_zero, List.set_cons_succ]
      refine wpAnyH_done (by kernel_rfl) ?_ _
      clear hHeld
      have HXS2 : Hid ((xs ++ [(⟨R.ep, R.pe, sq, akN R.ex, p⟩ : Pk)]).length = k + 1 ∧ ∀ (j : Nat) (x : Pk), (xs ++ [(⟨R.ep, R.pe, sq, akN R.ex, p⟩ : Pk)])[j]? = some x → ∃ p, R.outs[j]? = some p ∧ x = (⟨R.ep, R.pe, (R.ba + j) % 2 ^ 64, akN R.ex, p⟩ : Pk)) := by
        refine ⟨by rw [List.length_append, HXS.out.1]; rfl, fun j x hx => ?_⟩
        by_cases hj : j < xs.length
        · rw [List.getElem?_append_left hj] at hx
          exact HXS.out.2 j x hx
        · have hjl := (List.getElem?_eq_some_iff.1 hx).1
          rw [List.length_append] at hjl
          have hxl := HXS.out.1
          have hjk : j = k := by simp at hjl; omega
          rw [List.getElem?_append_right (by omega), show j - xs.length = 0 by omega] at hx
          simp only [List.getElem?_cons_zero, Option.some.injEq] at hx
          subst hjk
          exact ⟨p, HPK.out, by rw [← hx, HSQ.out]⟩
      clear e1 e2 e3 e4 e5 e6 HSK HXS HR8 hcr
      go_wp2_with fail
      go_roundw
      case rel => exact ⟨k + 1, _, _, xs ++ [(⟨R.ep, R.pe, sq, akN R.ex, p⟩ : Pk)], by omega, by rw [List.length_append]; rfl, by go_num, HXS2, HO9, HF9⟩
      case measure => simp [intOf]; omega
    · have HKE : Hid (k = R.outs.length) := by show _ = _; omega
      go_wp2_with fail
      go_ret
      rw [HP.out]
      refine ⟨A, c, xs, rfl, ⟨Rd.of_ownN HO.out, fun x hx => ?_, by have := HXS.out.1; omega⟩, HFW.out, ?_⟩
      · obtain ⟨j, hj⟩ := List.getElem?_of_mem hx
        obtain ⟨p, hp, rfl⟩ := HXS.out.2 j x hj
        exact ((HL.out.nofr HFW.out).od p (List.mem_of_getElem? hp)).rd.rd
      · unfold PkSame
        rw [if_neg HS.out, if_neg HP0.out]
        refine ⟨by rw [List.length_map, HXS.out.1, HKE.out], fun j d hd => ?_⟩
        have hj := (List.getElem?_eq_some_iff.1 hd).1
        rw [List.length_map] at hj
        obtain ⟨x, hx⟩ : ∃ x, xs[j]? = some x := ⟨_, List.getElem?_eq_getElem (by rw [HXS.out.1, HKE.out]; exact hj)⟩
        obtain ⟨p, hp, rfl⟩ := HXS.out.2 j x hx
        rw [List.getElem?_map, hp] at hd
        injection hd with hd
        rw [hx]
        show some _ = some _
        rw [← hd]
        rfl
end Go.Proofs.Ytchlafhmoncldaa
