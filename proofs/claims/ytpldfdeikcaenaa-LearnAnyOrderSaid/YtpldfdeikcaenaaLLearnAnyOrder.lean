/- LearnAnyOrder is true: in whatever order what is chosen comes, once all has come it is known without a gap. No condition. -/
import Derived.Test.YtpldfdeikcaenaaFull
import Derived.Test.YtpldfdeikcaenaaOpenI
namespace Go.Proofs.Ytpldfdeikcaenaa.learnAnyOrder
open Go.ChangeShapes Go.WideShapes Go.ChangeAt Go.RowKit Go.Maps

/-- what is known when all but the places R of the first size have been learnt. -/
def ordM (size : Nat) (R : List Nat) : Int → Option Int := fun x => if 0 ≤ x ∧ x < size ∧ x.toNat ∉ R then some (3 * x) else none
theorem ordM_in {size : Nat} {R : List Nat} {j : Nat} (h : j < size) (hn : j ∉ R) : ordM size R j = some (3 * (j : Int)) := by
  unfold ordM
  rw [if_pos ⟨by omega, by omega, by simpa using hn⟩]
theorem ordM_out {size : Nat} {R : List Nat} {j : Nat} (hn : size ≤ j ∨ j ∈ R) : ordM size R j = none := by
  unfold ordM
  rw [if_neg]
  rintro ⟨_, h1, h2⟩
  rcases hn with hn | hn
  · omega
  · exact h2 (by simpa using hn)
theorem ordM_dom {size : Nat} (hs : size ≤ 64) (R : List Nat) : Dom (ordM size R) := by
  intro x hx
  unfold ordM at hx
  split at hx
  · omega
  · exact absurd rfl hx
theorem ordM_none (size : Nat) : ordM size (List.range size) = fun _ => none := by
  funext x
  unfold ordM
  rw [if_neg]
  rintro ⟨h0, h1, h2⟩
  exact h2 (List.mem_range.2 (by omega))
theorem ord_len {size : Nat} (hs : size ≤ 64) {R : List Nat} {l : Nat} (hl : ∀ j, j < l → j < size ∧ j ∉ R) (hn : size ≤ l ∨ l ∈ R) : (seqV (ordM size R) 0).length = l := by
  refine known_len (ordM_dom hs R) (fun j hj => ?_) ?_
  · rw [Int.zero_add, ordM_in (hl j hj).1 (hl j hj).2]; rfl
  · rw [Int.zero_add, ordM_out hn]
theorem split_at {R : List Nat} {at_ r : Nat} (h : R[at_]? = some r) : R = R.take at_ ++ r :: R.drop (at_ + 1) := by
  obtain ⟨hl, e⟩ := List.getElem?_eq_some_iff.1 h
  rw [← e, List.getElem_cons_drop, List.take_append_drop]
theorem ord_sub {R : List Nat} {at_ r : Nat} (h : R[at_]? = some r) : (R.take at_ ++ R.drop (at_ + 1)).Sublist R := by
  conv => rhs; rw [split_at h]
  exact (List.Sublist.refl _).append (List.sublist_cons_self _ _)
theorem ord_next {size : Nat} {R : List Nat} (hp : R.Pairwise (· < ·)) (hb : ∀ r ∈ R, r < size) {at_ r : Nat} (h : R[at_]? = some r) (hs : size ≤ 64) :
    freeB (ordM size R) r = true ∧ learnM (ordM size R) r (3 * (r : Int)) = ordM size (R.take at_ ++ R.drop (at_ + 1)) := by
  have hm : r ∈ R := List.mem_of_getElem? h
  have hr := hb r hm
  have hf : freeB (ordM size R) r = true := by
    unfold freeB
    rw [ordM_out (.inr hm), decide_eq_true (show (0 : Int) ≤ r by omega), decide_eq_true (show (r : Int) < 64 by omega)]
    rfl
  refine ⟨hf, ?_⟩
  unfold learnM
  rw [if_pos hf]
  have e := split_at h
  have hnd : r ∉ R.take at_ ++ R.drop (at_ + 1) := by
    rw [e] at hp
    intro hc
    rw [List.pairwise_append] at hp
    rcases List.mem_append.1 hc with hc | hc
    · have := hp.2.2 r hc r (List.mem_cons_self ..)
      omega
    · have := (List.pairwise_cons.1 hp.2.1).1 r hc
      omega
  funext x
  by_cases hx : x = r
  · subst hx
    rw [updK_same, ordM_in hr hnd]
  · rw [updK_other _ _ hx]
    unfold ordM
    have hmem : 0 ≤ x → (x.toNat ∈ R ↔ x.toNat ∈ R.take at_ ++ R.drop (at_ + 1)) := fun h0 => by
      conv => lhs; rw [e]
      simp only [List.mem_append, List.mem_cons]
      have : x.toNat ≠ r := by omega
      simp [this]
    by_cases h0 : 0 ≤ x
    · simp only [hmem h0]
    · rw [if_neg (by omega), if_neg (by omega)]
def nints (R : List Nat) : List Value := R.map fun r : Nat => Value.int .i64 (r : Int)
theorem nints_one (R : List Nat) : ∀ u ∈ nints R, u.oneCell' = true := by
  intro u hu
  obtain ⟨r, _, rfl⟩ := List.mem_map.1 hu
  rfl
theorem nints_len (R : List Nat) : (nints R).length = R.length := by unfold nints; rw [List.length_map]
theorem nints_get {R : List Nat} {k r : Nat} (h : R[k]? = some r) : (nints R)[k]? = some (.int .i64 (r : Int)) := by unfold nints; rw [List.getElem?_map, h]; rfl
theorem nints_take (R : List Nat) (k : Nat) : nints (R.take k) = (nints R).take k := by unfold nints; rw [List.map_take]
theorem nints_drop (R : List Nat) (k : Nat) : nints (R.drop k) = (nints R).drop k := by unfold nints; rw [List.map_drop]
/-- what stands in memory between two rounds. -/
structure AAt (w : World) (gc bm t size : Nat) (R : List Nat) (A : Option Addr) (c : Nat) (W : World) : Prop where
  ch : ChI W w.heap.size gc bm t (ordM size R)
  rd : Rd W A (nints R)
  le : R.length ≤ c
  cm : c ≤ maxLen
  up : R.Pairwise (· < ·)
  bd : ∀ r ∈ R, r < size
  fr : Fr NoBlk w W
  tl : t + R.length ≤ size
theorem lenI_seq (w : World) (B gc bm s : Nat) (m : Int → Option Int) (h : ChI w B gc bm s m) :
    Calls Try.prog 19 #[.pointer (some ⟨gc, 0, none⟩)] w fun e w' => e = .returned (.int .i64 (seqV m 0).length) ∧ Fr NoBlk w w' :=
  (lenI_any w B gc bm s m h).mono fun e w' ⟨L, hL, he, hf⟩ => ⟨by rw [he, hL.seq h.dom, seqV, List.length_map], hf⟩
theorem ChI.low {w : World} {B B' gc bm s : Nat} {m : Int → Option Int} (h : ChI w B gc bm s m) (hb : B' ≤ B) : ChI w B' gc bm s m := ⟨h.bk, h.km, h.dom, Nat.le_trans hb h.b1, Nat.le_trans hb h.b2⟩

set_option maxRecDepth 100000 in
set_option maxHeartbeats 4000000 in
theorem walk (w : World) (n : Int) (A : Option Addr) (c : Nat) (pz : List Int) (hr : Rd w A (pz.map fun z => .int .i64 z)) (hm : pz.length ≤ maxLen) :
    Calls Try.prog 6 #[.int .i64 n, .slice A pz.length c] w fun e w' => e = .returned (.bool true) ∧ Fr NoBlk w w' := by
  obtain ⟨i0, hi, hz0, hz1, hz2⟩ := info_parts elemInfoI
  have HR := Lib.hid hr
  clear hr
  unfold maxLen at hm
  obtain ⟨q, hq, hq1⟩ := low_bits n 1023 (by omega)
  rw [show ((1023 : Nat) : Int) = 1023 from rfl] at hq
  obtain ⟨size, hsize⟩ : ∃ size, size = q % 65 := ⟨_, rfl⟩
  have hs64 : size ≤ 64 := by omega
  have hrem : (q : Int).tmod 65 = (size : Int) := by rw [Int.tmod_eq_emod_of_nonneg (by omega)]; omega
  have HS := Lib.hid hs64
  clear hsize
  go_enter Try.func6, Try.ntmps6
  go_wp2_with fail
  refine (speaks_any _).mono ?_
  rintro e w1 ⟨rfl, hf1⟩
  have HF1 := Lib.hid hf1
  clear hf1
  by_cases h200 : 200 < pz.length
  · go_wp2_with fail
    go_ret
    exact ⟨rfl, HF1.out⟩
  go_wp2_with fail
  refine (newI_any w1).mono ?_
  rintro e w2 ⟨gc, bm, rfl, hc2, hf2⟩
  have HC2 := Lib.hid (ChI.low hc2 HF1.out.size)
  have HF2 := Lib.hid (HF1.out.trans hf2)
  clear hf2 hc2 HF1
  clear hq
  have HB3 : Hid (Bk (w2.alloc (.cells #[] 3)) w2.heap.size 3 #[]) := Bk.new _ _ _
  have HO3 : Hid ((w2.alloc (.cells #[] 3)).ownsRow w2.heap.size 3 1 (.slice (some ⟨w2.heap.size, 0, none⟩) 0 0) 0 []) := own_lit HB3.out (Nat.le_refl _)
  have HF3 : Hid (Fr NoBlk w2 (w2.alloc (.cells #[] 3))) := (Fr.refl _ _).alloc _
  clear HB3
  go_wp2_with fail
  go_loopw [7, 8] (fun out i wr => ∃ (k : Nat) (A : Option Addr) (c : Nat), k ≤ size ∧ k ≤ c ∧ out = .slice A k c ∧ i = .int .i64 k ∧ Hid (Fr NoBlk w2 wr ∧ wr.ownsRow w2.heap.size 3 1 (.slice A k c) k (nints (List.range k)))) (fun _ i _ => size - (intOf i).toNat)
  case atStart => exact ⟨0, _, _, Nat.zero_le _, Nat.le_refl _, rfl, rfl, HF3.out, HO3.out⟩
  case round =>
    clear HF3 HO3
    obtain ⟨k, A1, c1, hk, hkc, rfl, rfl, HX⟩ := hrel
    by_cases hlt : k < size
    · have HOV1 : Hid ((wr.alloc (.cells #[.int .i64 k] 3)).ownsRow w2.heap.size 3 1 (.slice A1 k c1) k (nints (List.range k))) := own_fr HX.out.2 ((Fr.refl NoBlk wr).alloc _) fun _ _ h => h
      have HSRC : Hid (Rd (wr.alloc (.cells #[.int .i64 k] 3)) (some ⟨wr.heap.size, 0, none⟩) [.int .i64 k]) := Rd.of_cells (Bk.new wr 3 #[.int .i64 k])
      have HNX : Hid (nints (List.range (k + 1)) = nints (List.range k) ++ [.int .i64 k]) := by
        show _ = _
        rw [List.range_succ, nints, List.map_append]; rfl
      have hwr : IntKind.i64.wrap ((k : Int) + 1) = (k : Int) + 1 := IntWalk.i64_in _ (by omega)
      go_wp2_with (first | (at_builtin; go_loud (refine wpList_app rfl _ _ 45 rfl w2.heap.size 3 i0 (Value.int .i64 0) 8 Try.underlying45 hi hz0 hz1 hz2 rfl (.slice A1 k c1) k (nints (List.range k)) rfl HOV1.out (some ⟨wr.heap.size, 0, none⟩) 1 1 [.int .i64 k] rfl rfl HSRC.out (by intro y hy; rw [List.mem_singleton] at hy; rw [hy]; rfl) (fun h => by cases h) (by unfold maxLen; omega) (by omega) (by have := HX.out.1.size; rw [World.size_alloc]; omega) ?_); intro v2 W2 ho2 hg2 hn2 hb2; obtain ⟨A2, c2, rfl, hc2, _⟩ := own_form ho2; have HO2 := Lib.hid ho2; have HF2' : Hid (Fr NoBlk w2 W2) := (HX.out.1.alloc _).grown hg2 (fun r e hl => by have := (HOV1.out.lt _ e).1; omega); clear ho2 hg2 hn2 hb2) | fail)
      go_roundw
      case rel => exact ⟨k + 1, A2, c2, by omega, hc2, rfl, rfl, HF2'.out, by rw [HNX.out]; exact HO2.out⟩
      case measure => simp [intOf]; omega
    · have e : k = size := by omega
      have HA0 : Hid (AAt w gc bm 0 size (List.range size) A1 c1 wr) := by
        have ho := HX.out.2
        rw [e] at ho
        refine ⟨?_, Rd.of_own ho, by rw [List.length_range]; omega, own_cap ho, List.pairwise_lt_range, fun r hr => List.mem_range.1 hr, HF2.out.trans HX.out.1, by rw [List.length_range]; omega⟩
        rw [ordM_none]
        exact HC2.out.nofr HX.out.1
      clear HX HC2 HF2
      subst e
      clear hlt hk hkc hrem
      obtain ⟨w3, hw3⟩ : ∃ w3, w3 = wr := ⟨_, rfl⟩
      rw [← hw3] at HA0 ⊢
      clear hw3
      go_wp2_with fail
      go_loopw [7, 9] (fun r kk wr => ∃ (j n2 : Nat) (R : List Nat) (A2 : Option Addr) (c2 t : Nat), n2 ≤ c2 ∧ j + n2 = k ∧ r = .slice A2 n2 c2 ∧ kk = .int .i64 j ∧ Hid (AAt w gc bm t k R A2 c2 wr ∧ R.length = n2)) (fun _ kk _ => k - (intOf kk).toNat)
      case atStart =>
        have hl : (List.range k).length = k := List.length_range
        exact ⟨0, k, List.range k, A1, c1, 0, by have := HA0.out.le; omega, by omega, rfl, rfl, HA0.out, hl⟩
      case round =>
        clear HA0
        obtain ⟨j, n2, R, A2, c2, t, hnc, hjn, rfl, rfl, HX⟩ := hrel
        have HA := Lib.hid HX.out.1
        have HN := Lib.hid HX.out.2
        clear HX
        by_cases hpos : 0 < n2
        · have hmne : ¬ ((n2 : Int) = 0) := by omega
          by_cases hjp : j < pz.length
          · obtain ⟨z, hz⟩ : ∃ z, pz[j]? = some z := ⟨_, List.getElem?_eq_getElem hjp⟩
            obtain ⟨bp, op, rfl, hpc⟩ := (HR.out.nofr HA.out.fr).at_ (k := j) (v := .int .i64 z) (by rw [List.getElem?_map, hz]; rfl)
            obtain ⟨q2, hq2, hq3⟩ := low_bits z 65535 (by omega)
            rw [show ((65535 : Nat) : Int) = 65535 from rfl] at hq2
            obtain ⟨ai, hai⟩ : ∃ ai, ai = q2 % n2 := ⟨_, rfl⟩
            have hain : ai < n2 := by rw [hai]; exact Nat.mod_lt _ hpos
            have hrem2 : (q2 : Int).tmod (n2 : Int) = (ai : Int) := by rw [Int.tmod_eq_emod_of_nonneg (by omega), hai]; rfl
            have hj0 : (0 : Int) ≤ (j : Int) := by omega
            have hj1 : (j : Int) < (pz.length : Int) := by omega
            clear hz hai
            have hai0 : (0 : Int) ≤ (ai : Int) := by omega
            have hai1 : (ai : Int) < (n2 : Int) := by omega
            obtain ⟨r0, hr0⟩ : ∃ r0, R[0]? = some r0 := ⟨_, List.getElem?_eq_getElem (by rw [HN.out]; exact hpos)⟩
            obtain ⟨r, hr⟩ : ∃ r, R[ai]? = some r := ⟨_, List.getElem?_eq_getElem (by rw [HN.out]; exact hain)⟩
            obtain ⟨b2, o2, rfl, hcr⟩ := HA.out.rd.at_ (nints_get hr)
            obtain ⟨b2', o2', e2, hcr0⟩ := HA.out.rd.at_ (nints_get hr0)
            injection e2 with e2
            injection e2 with e2 e3
            subst e2 e3
            have hcr00 : wr.cell? ⟨b2, o2, none⟩ = some (.int .i64 (r0 : Int)) := by simpa using hcr0
            have hr64 : r < 64 := by have := HA.out.bd r (List.mem_of_getElem? hr); have := HS.out; omega
            have HRC : Hid (∀ W, Rd W (some ⟨b2, o2, none⟩) (nints R) → W.cell? ⟨b2, o2 + ai, none⟩ = some (.int .i64 (r : Int))) := fun W h => by
              obtain ⟨b', o', e, hc⟩ := h.at_ (nints_get hr)
              injection e with e
              injection e with e e'
              subst e e'
              exact hc
            have HLEN := Lib.hid fun W h => lenI_seq W w.heap.size gc bm t (ordM k R) h
            have hl0 : (seqV (ordM k R) 0).length = r0 := ord_len HS.out (fun j hj => by
              have hb0 := HA.out.bd r0 (List.mem_of_getElem? hr0)
              refine ⟨by omega, fun hm => ?_⟩
              obtain ⟨i, hi⟩ := List.mem_iff_getElem?.1 hm
              have hil := (List.getElem?_eq_some_iff.1 hi).1
              rcases Nat.eq_zero_or_pos i with e | e
              · subst e; rw [hr0] at hi; injection hi with hi; omega
              · have := List.pairwise_iff_getElem.1 HA.out.up 0 i (by omega) hil e
                rw [(List.getElem?_eq_some_iff.1 hi).2, (List.getElem?_eq_some_iff.1 hr0).2] at this
                omega) (.inr (List.mem_of_getElem? hr0))
            rw [hl0] at HLEN
            have HTL := Lib.hid HA.out.tl
            have hnx := ord_next HA.out.up HA.out.bd hr HS.out
            have HLE := Lib.hid fun W h => learnI_any W w.heap.size gc bm t (ordM k R) h (by have := HTL.out; have := HS.out; omega) r (wf64_of (by omega)) (3 * (r : Int))
            rw [hnx.1, hnx.2] at HLE
            unfold evI at HLE
            have HUP : Hid ((R.take ai ++ R.drop (ai + 1)).Pairwise (· < ·)) := HA.out.up.sublist (ord_sub hr)
            have HBD : Hid (∀ x ∈ R.take ai ++ R.drop (ai + 1), x < k) := fun x hx => HA.out.bd x ((ord_sub hr).subset hx)
            have HLR : Hid ((R.take ai ++ R.drop (ai + 1)).length + 1 = n2) := by
              show _ = _
              rw [List.length_append, List.length_take, List.length_drop, HN.out]
              omega
            have hwr3 : IntKind.i64.wrap (3 * (r : Int)) = 3 * (r : Int) := IntWalk.i64_in _ (by omega)
            have hnm1 : (ai : Int) + 1 ≤ (n2 : Int) := by omega
            have hnm2 : (n2 : Int) ≤ (c2 : Int) := by omega
            have hnm3 : (ai : Int) ≤ (c2 : Int) := by omega
            have hnm4 : (0 : Int) ≤ (ai : Int) + 1 := by omega
            have hnm5 : (ai : Int) ≤ (ai : Int) + 1 := by omega
            have hwra : IntKind.i64.wrap ((ai : Int) + 1) = (ai : Int) + 1 := IntWalk.i64_in _ (by have := HS.out; omega)
            have hwrj : IntKind.i64.wrap ((j : Int) + 1) = (j : Int) + 1 := IntWalk.i64_in _ (by have := HS.out; omega)
            clear hl0 hnx hr hr0
            go_wp2_with fail
            refine wp_region_held_drew (S := fun w' => w'.cell? ⟨b2, o2 + ai, none⟩ = some (.int .i64 (r : Int))) (by kernel_rfl) (HRC.out _ (HA.out.rd.nofr (Fr.refl _ _).drew)) (fun hHeld => ?_)
            refine wpAnyH_take (i := 0) (oi := ⟨some 56, _, _, _, _, _⟩) (v := ?_) rfl (by kernel_rfl) (by kernel_rfl) (by kernel_rfl) (fun _ _ _ h => h) (Or.inl ⟨by rfl, ?_⟩) (by assumption) ?_
            rotate_left 1
            · (intro w hSw; (try dsimp only at hSw); go_simp) <;> (with_reducible rfl)
            try simp only [Act.put, List.setIfInBounds_toArray, List.set_cons_zero, List.set_cons_succ]
            refine wpAnyH_take (i := 2) (oi := ⟨some 58, _, _, _, _, _⟩) (v := ?_) rfl (by kernel_rfl) (by kernel_rfl) (by kernel_rfl) (fun _ _ _ h => h) (Or.inl ⟨by rfl, ?_⟩) (by assumption) ?_
            rotate_left 1
            · (intro w hSw; (try dsimp only at hSw); go_simp) <;> (with_reducible rfl)
            try simp only [Act.put, List.setIfInBounds_toArray, List.set_cons_zero, List.set_cons_succ]
            refine wpAnyH_ready (rs := [1]) (by kernel_rfl) (by simp) ?_
            refine AllReadyH.cons (o := ⟨some 57, _, _, _, _, _⟩) rfl (fun K hK => ?_) AllReadyH.nil
            go_simp
            go_at_call 19
            refine (HLEN.out _ (HA.out.ch.nofr (Fr.refl _ _).drew)).mono ?_
            rintro e w6 ⟨rfl, hf6⟩
            have HF6 : Hid (Fr NoBlk wr w6) := ((Fr.refl _ _).drew).trans hf6
            have HC6 := Lib.hid (HA.out.ch.nofr HF6.out)
            have HR6 := Lib.hid (HA.out.rd.nofr HF6.out)
            clear hf6 hHeld
            refine hK.out _ _ ?_ (fun hHeld => ?_)
            · exact HRC.out _ HR6.out
            clear hK K
            try simp only [Act.put, List.setIfInBounds_toArray, List.set_cons_zero, List.set_cons_succ]
            refine wpAnyH_take (i := 3) (oi := ⟨some 59, _, _, _, _, _⟩) (v := ?_) rfl (by kernel_rfl) (by kernel_rfl) (by kernel_rfl) (fun _ _ _ h => h) (Or.inl ⟨by rfl, ?_⟩) (by assumption) ?_
            rotate_left 1
            · (intro w hSw; (try dsimp only at hSw); go_simp) <;> (with_reducible rfl)
            try simp only [Act.put, List.setIfInBounds_toArray, List.set_cons_zero, List.set_cons_succ]
            refine wpAnyH_take (i := 4) (oi := ⟨some 60, _, _, _, _, _⟩) (v := ?_) rfl (by kernel_rfl) (by kernel_rfl) (by kernel_rfl) (fun _ _ _ h => h) (Or.inl ⟨by rfl, ?_⟩) (by assumption) ?_
            rotate_left 1
            · (intro w hSw; (try dsimp only at hSw); go_simp) <;> (with_reducible rfl)
            try simp only [Act.put, List.setIfInBounds_toArray, List.set_cons_zero, List.set_cons_succ]
            refine wpAnyH_take (i := 5) (oi := ⟨some 61, _, _, _, _, _⟩) (v := ?_) rfl (by kernel_rfl) (by kernel_rfl) (by kernel_rfl) (fun _ _ _ h => h) (Or.inl ⟨by rfl, ?_⟩) (by assumption) ?_
            rotate_left 1
            · (intro w hSw; (try dsimp only at hSw); go_simp) <;> (with_reducible rfl)
            try simp only [Act.put, List.setIfInBounds_toArray, List.set_cons_zero, List.set_cons_succ]
            refine wpAnyH_take (i := 6) (oi := ⟨some 62, _, _, _, _, _⟩) (v := ?_) rfl (by kernel_rfl) (by kernel_rfl) (by kernel_rfl) (fun _ _ _ h => h) (Or.inl ⟨by rfl, ?_⟩) (by assumption) ?_
            rotate_left 1
            · (intro w hSw; (try dsimp only at hSw); go_simp) <;> (with_reducible rfl)
            try simp only [Act.put, List.setIfInBounds_toArray, List.set_cons_zero, List.set_cons_succ]
            refine wpAnyH_take (i := 7) (oi := ⟨some 63, _, _, _, _, _⟩) (v := ?_) rfl (by kernel_rfl) (by kernel_rfl) (by kernel_rfl) (fun _ _ _ h => h) (Or.inl ⟨by rfl, ?_⟩) (by assumption) ?_
            rotate_left 1
            · (intro w hSw; (try dsimp only at hSw); go_simp) <;> (with_reducible rfl)
            try simp only [Act.put, List.setIfInBounds_toArray, List.set_cons_zero, List.set_cons_succ]
            refine wpAnyH_take (i := 8) (oi := ⟨some 64, _, _, _, _, _⟩) (v := ?_) rfl (by kernel_rfl) (by kernel_rfl) (by kernel_rfl) (fun _ _ _ h => h) (Or.inl ⟨by rfl, ?_⟩) (by assumption) ?_
            rotate_left 1
            · (intro w hSw; (try dsimp only at hSw); go_simp) <;> (with_reducible rfl)
            try simp only [Act.put, List.setIfInBounds_toArray, List.set_cons_zero, List.set_cons_succ]
            refine wpAnyH_take (i := 9) (oi := ⟨some 65, _, _, _, _, _⟩) (v := ?_) rfl (by kernel_rfl) (by kernel_rfl) (by kernel_rfl) (fun _ _ _ h => h) (Or.inl ⟨by rfl, ?_⟩) (by assumption) ?_
            rotate_left 1
            · (intro w hSw; (try dsimp only at hSw); go_simp) <;> (with_reducible rfl)
            try simp only [Act.put, List.setIfInBounds_toArray, List.set_cons_zero, List.set_cons_succ]
            refine wpAnyH_take (i := 10) (oi := ⟨some 66, _, _, _, _, _⟩) (v := ?_) rfl (by kernel_rfl) (by kernel_rfl) (by kernel_rfl) (fun _ _ _ h => h) (Or.inl ⟨by rfl, ?_⟩) (by assumption) ?_
            rotate_left 1
            · (intro w hSw; (try dsimp only at hSw); go_simp) <;> (with_reducible rfl)
            try simp only [Act.put, List.setIfInBounds_toArray, List.set_cons_zero, List.set_cons_succ]
            refine wpAnyH_take (i := 11) (oi := ⟨some 67, _, _, _, _, _⟩) (v := ?_) rfl (by kernel_rfl) (by kernel_rfl) (by kernel_rfl) (fun _ _ _ h => h) (Or.inl ⟨by rfl, ?_⟩) (by assumption) ?_
            rotate_left 1
            · (intro w hSw; (try dsimp only at hSw); go_simp) <;> (with_reducible rfl)
            try simp only [Act.put, List.setIfInBounds_toArray, List.set_cons_zero, List.set_cons_succ]
            refine wpAnyH_take (i := 12) (oi := ⟨some 68, _, _, _, _, _⟩) (v := ?_) rfl (by kernel_rfl) (by kernel_rfl) (by kernel_rfl) (fun _ _ _ h => h) (Or.inl ⟨by rfl, ?_⟩) (by assumption) ?_
            rotate_left 1
            · (intro w hSw; (try dsimp only at hSw); go_simp) <;> (with_reducible rfl)
            try simp only [Act.put, List.setIfInBounds_toArray, List.set_cons_zero, List.set_cons_succ]
            refine wpAnyH_take (i := 13) (oi := ⟨some 69, _, _, _, _, _⟩) (v := ?_) rfl (by kernel_rfl) (by kernel_rfl) (by kernel_rfl) (fun _ _ _ h => h) (Or.inl ⟨by rfl, ?_⟩) (by assumption) ?_
            rotate_left 1
            · (intro w hSw; (try dsimp only at hSw); go_simp) <;> (with_reducible rfl)
            try simp only [Act.put, List.setIfInBounds_toArray, List.set_cons_zero, List.set_cons_succ]
            refine wpAnyH_take (i := 14) (oi := ⟨some 70, _, _, _, _, _⟩) (v := ?_) rfl (by kernel_rfl) (by kernel_rfl) (by kernel_rfl) (fun _ _ _ h => h) (Or.inl ⟨by rfl, ?_⟩) (by assumption) ?_
            rotate_left 1
            · (intro w hSw; (try dsimp only at hSw); go_simp) <;> (with_reducible rfl)
            try simp only [Act.put, List.setIfInBounds_toArray, List.set_cons_zero, List.set_cons_succ]
            refine wpAnyH_ready (rs := [15]) (by kernel_rfl) (by simp) ?_
            refine AllReadyH.cons (o := ⟨some 71, _, _, _, _, _⟩) rfl (fun K hK => ?_) AllReadyH.nil
            go_simp
            go_at_call 20
            refine (HLE.out _ HC6.out).mono ?_
            rintro e w7 ⟨rfl, t7, ht7, hc7, hf7⟩
            have HT7 := Lib.hid ht7
            have HC7 := Lib.hid hc7
            have HR7 := Lib.hid (HR6.out.km HC6.out.km hf7)
            have HF7 : Hid (Fr NoBlk w w7) := (HA.out.fr.trans HF6.out).step hf7 (fun i hi e => by have := HC6.out.b2; omega)
            clear ht7 hc7 hf7 hHeld
            refine hK.out _ _ ?_ (fun hHeld => ?_)
            · exact HRC.out _ HR7.out
            clear hK K
            try simp only [Act.put, List.setIfInBounds_toArray, List.set_cons_zero, List.set_cons_succ]
            refine wpAnyH_take (i := 16) (oi := ⟨some 72, _, _, _, _, _⟩) (v := ?_) rfl (by kernel_rfl) (by kernel_rfl) (by kernel_rfl) (fun _ _ _ h => h) (Or.inl ⟨by rfl, ?_⟩) (by assumption) ?_
            rotate_left 1
            · (intro w hSw; (try dsimp only at hSw); go_simp) <;> (with_reducible rfl)
            try simp only [Act.put, List.setIfInBounds_toArray, List.set_cons_zero, List.set_cons_succ]
            refine wpAnyH_take (i := 17) (oi := ⟨some 73, _, _, _, _, _⟩) (v := ?_) rfl (by kernel_rfl) (by kernel_rfl) (by kernel_rfl) (fun _ _ _ h => h) (Or.inl ⟨by rfl, ?_⟩) (by assumption) ?_
            rotate_left 1
            · (intro w hSw; (try dsimp only at hSw); go_simp) <;> (with_reducible rfl)
            try simp only [Act.put, List.setIfInBounds_toArray, List.set_cons_zero, List.set_cons_succ]
            refine wpAnyH_done (by kernel_rfl) ?_ _
            clear hHeld
            have HRT : Hid (Rd w7.drew (some ⟨b2, o2, none⟩) (nints (R.take ai))) := by
              show Rd _ _ _
              rw [nints_take]
              exact (HR7.out.take ai).nofr (Fr.refl _ _).drew
            have hcut := HR7.out.cut (k := ai + 1) (cap := c2) (by rw [nints_len, HN.out]; omega) (by rw [nints_len, HN.out]; exact hnc)
            rw [← nints_drop] at hcut
            by_cases hce : c2 = ai + 1
            · rw [if_pos hce] at hcut
              have HRD : Hid (Rd w7.drew (some ⟨b2, o2, none⟩) (nints (R.drop (ai + 1)))) := hcut.nofr (Fr.refl _ _).drew
              have hb8 : (c2 : Int) = (ai : Int) + 1 := by omega
              clear hcut
              go_wp2_with fail
              refine wp_region_held_drew (S := fun _ => True) (by kernel_rfl) trivial (fun hHeld => ?_)
              refine wpAnyH_take (i := 0) (oi := ⟨some 74, _, _, _, _, _⟩) (v := ?_) rfl (by kernel_rfl) (by kernel_rfl) (by kernel_rfl) (fun _ _ _ h => h) (Or.inl ⟨by rfl, ?_⟩) (by assumption) ?_
              rotate_left 1
              · (intro w hSw; (try dsimp only at hSw); go_simp) <;> (with_reducible rfl)
              try simp only [Act.put, List.setIfInBounds_toArray, List.set_cons_zero, List.set_cons_succ]
              refine wpAnyH_take (i := 1) (oi := ⟨some 75, _, _, _, _, _⟩) (v := ?_) rfl (by kernel_rfl) (by kernel_rfl) (by kernel_rfl) (fun _ _ _ h => h) (Or.inl ⟨by rfl, ?_⟩) (by assumption) ?_
              rotate_left 1
              · (intro w hSw; (try dsimp only at hSw); go_simp) <;> (with_reducible rfl)
              try simp only [Act.put, List.setIfInBounds_toArray, List.set_cons_zero, List.set_cons_succ]
              refine wpAnyH_take (i := 2) (oi := ⟨some 76, _, _, _, _, _⟩) (v := ?_) rfl (by kernel_rfl) (by kernel_rfl) (by kernel_rfl) (fun _ _ _ h => h) (Or.inl ⟨by rfl, ?_⟩) (by assumption) ?_
              rotate_left 1
              · (intro w hSw; (try dsimp only at hSw); go_simp) <;> (with_reducible rfl)
              try simp only [Act.put, List.setIfInBounds_toArray, List.set_cons_zero, List.set_cons_succ]
              refine wpAnyH_take (i := 3) (oi := ⟨some 77, _, _, _, _, _⟩) (v := ?_) rfl (by kernel_rfl) (by kernel_rfl) (by kernel_rfl) (fun _ _ _ h => h) (Or.inl ⟨by rfl, ?_⟩) (by assumption) ?_
              rotate_left 1
              · (intro w hSw; (try dsimp only at hSw); go_simp) <;> (with_reducible rfl)
              try simp only [Act.put, List.setIfInBounds_toArray, List.set_cons_zero, List.set_cons_succ]
              refine wpAnyH_take (i := 4) (oi := ⟨some 78, _, _, _, _, _⟩) (v := ?_) rfl (by kernel_rfl) (by kernel_rfl) (by kernel_rfl) (fun _ _ _ h => h) (Or.inl ⟨by rfl, ?_⟩) (by assumption) ?_
              rotate_left 1
              · (intro w hSw; (try dsimp only at hSw); go_simp) <;> (with_reducible rfl)
              try simp only [Act.put, List.setIfInBounds_toArray, List.set_cons_zero, List.set_cons_succ]
              refine wpAnyH_take (i := 5) (oi := ⟨some 79, _, _, _, _, _⟩) (v := ?_) rfl (by kernel_rfl) (by kernel_rfl) (by kernel_rfl) (fun _ _ _ h => h) (Or.inl ⟨by rfl, ?_⟩) (by assumption) ?_
              rotate_left 1
              · (intro w hSw; (try dsimp only at hSw); go_simp) <;> (with_reducible rfl)
              try simp only [Act.put, List.setIfInBounds_toArray, List.set_cons_zero, List.set_cons_succ]
              refine wpAnyH_take (i := 6) (oi := ⟨some 80, _, _, _, _, _⟩) (v := ?_) rfl (by kernel_rfl) (by kernel_rfl) (by kernel_rfl) (fun _ _ _ h => h) (Or.inl ⟨by rfl, ?_⟩) (by assumption) ?_
              rotate_left 1
              · (intro w hSw; (try dsimp only at hSw); go_simp) <;> (with_reducible rfl)
              try simp only [Act.put, List.setIfInBounds_toArray, List.set_cons_zero, List.set_cons_succ]
              refine wpAnyH_take (i := 7) (oi := ⟨some 81, _, _, _, _, _⟩) (v := ?_) rfl (by kernel_rfl) (by kernel_rfl) (by kernel_rfl) (fun _ _ _ h => h) (Or.inl ⟨by rfl, ?_⟩) (by assumption) ?_
              rotate_left 1
              · (intro w hSw; (try dsimp only at hSw); go_simp) <;> (with_reducible rfl)
              try simp only [Act.put, List.setIfInBounds_toArray, List.set_cons_zero, List.set_cons_succ]
              refine wpAnyH_ready (rs := [8]) (by kernel_rfl) (by simp) ?_
              refine AllReadyH.cons (o := ⟨some 82, _, _, _, _, _⟩) rfl (fun K hK => ?_) AllReadyH.nil
              refine step_appF rfl (.tmp 77) (.tmp 81) 45 rfl 3 i0 (Value.int .i64 0) 8 Try.underlying45 hi hz0 hz1 hz2 rfl ⟨b2, o2, none⟩ ai (nints (R.take ai)) rfl (by rw [nints_len, List.length_take, HN.out]; omega) HRT.out (some ⟨b2, o2, none⟩) 0 (n2 - (ai + 1)) (nints (R.drop (ai + 1))) rfl (by rw [nints_len, List.length_drop, HN.out]) HRD.out (nints_one _) (fun h => by cases h) (by unfold maxLen; have := HS.out; omega) (by have := HS.out; omega) ?_
              intro A9 c9 w9 hg9
              have HZ : Hid (AAt w gc bm t7 k (R.take ai ++ R.drop (ai + 1)) A9 c9 w9) := by
                have hfr : Fr NoBlk w7 w9 := ((Fr.refl _ _).drew).trans hg9.fr
                refine ⟨HC7.out.nofr hfr, ?_, ?_, hg9.max, HUP.out, HBD.out, HF7.out.trans hfr, ?_⟩
                · have := hg9.rd
                  rwa [show nints (R.take ai) ++ nints (R.drop (ai + 1)) = nints (R.take ai ++ R.drop (ai + 1)) by unfold nints; rw [List.map_append]] at this
                · have := hg9.le; have := HLR.out; omega
                · have := HLR.out; have := HT7.out; have := HTL.out; have := HN.out; omega
              have HLE9 : Hid (ai + (n2 - (ai + 1)) ≤ c9) := hg9.le
              clear hg9 hHeld
              refine hK.out _ _ trivial (fun hHeld => ?_)
              clear hK K
              try simp only [Act.put, List.setIfInBounds_toArray, List.set_cons_zero, List.set_cons_succ]
              refine wpAnyH_take (i := 9) (oi := ⟨some 7, _, _, _, _, _⟩) (v := ?_) rfl (by kernel_rfl) (by kernel_rfl) (by kernel_rfl) (fun _ _ _ h => h) (Or.inl ⟨by rfl, ?_⟩) (by assumption) ?_
              rotate_left 1
              · (intro w hSw; (try dsimp only at hSw); go_simp) <;> (with_reducible rfl)
              try simp only [Act.put, List.setIfInBounds_toArray, List.set_cons_zero, List.set_cons_succ]
              refine wpAnyH_done (by kernel_rfl) ?_ _
              clear hHeld
              go_wp2_with fail
              go_roundw
              case rel => exact ⟨j + 1, ai + (n2 - (ai + 1)), R.take ai ++ R.drop (ai + 1), A9, c9, t7, HLE9.out, by omega, rfl, by go_num, HZ.out, by have := HLR.out; omega⟩
              case measure => simp [intOf]; omega
            · rw [if_neg hce] at hcut
              have HRD : Hid (Rd w7.drew (some ⟨b2, o2 + (ai + 1), none⟩) (nints (R.drop (ai + 1)))) := by
                have h := hcut.nofr (w' := w7.drew) (Fr.refl _ _).drew
                simp only [Option.map_some, add_lit] at h
                exact h
              have hb8 : ¬ ((c2 : Int) = (ai : Int) + 1) := by omega
              clear hcut
              go_wp2_with fail
              refine wp_region_held_drew (S := fun _ => True) (by kernel_rfl) trivial (fun hHeld => ?_)
              refine wpAnyH_take (i := 0) (oi := ⟨some 74, _, _, _, _, _⟩) (v := ?_) rfl (by kernel_rfl) (by kernel_rfl) (by kernel_rfl) (fun _ _ _ h => h) (Or.inl ⟨by rfl, ?_⟩) (by assumption) ?_
              rotate_left 1
              · (intro w hSw; (try dsimp only at hSw); go_simp) <;> (with_reducible rfl)
              try simp only [Act.put, List.setIfInBounds_toArray, List.set_cons_zero, List.set_cons_succ]
              refine wpAnyH_take (i := 1) (oi := ⟨some 75, _, _, _, _, _⟩) (v := ?_) rfl (by kernel_rfl) (by kernel_rfl) (by kernel_rfl) (fun _ _ _ h => h) (Or.inl ⟨by rfl, ?_⟩) (by assumption) ?_
              rotate_left 1
              · (intro w hSw; (try dsimp only at hSw); go_simp) <;> (with_reducible rfl)
              try simp only [Act.put, List.setIfInBounds_toArray, List.set_cons_zero, List.set_cons_succ]
              refine wpAnyH_take (i := 2) (oi := ⟨some 76, _, _, _, _, _⟩) (v := ?_) rfl (by kernel_rfl) (by kernel_rfl) (by kernel_rfl) (fun _ _ _ h => h) (Or.inl ⟨by rfl, ?_⟩) (by assumption) ?_
              rotate_left 1
              · (intro w hSw; (try dsimp only at hSw); go_simp) <;> (with_reducible rfl)
              try simp only [Act.put, List.setIfInBounds_toArray, List.set_cons_zero, List.set_cons_succ]
              refine wpAnyH_take (i := 3) (oi := ⟨some 77, _, _, _, _, _⟩) (v := ?_) rfl (by kernel_rfl) (by kernel_rfl) (by kernel_rfl) (fun _ _ _ h => h) (Or.inl ⟨by rfl, ?_⟩) (by assumption) ?_
              rotate_left 1
              · (intro w hSw; (try dsimp only at hSw); go_simp) <;> (with_reducible rfl)
              try simp only [Act.put, List.setIfInBounds_toArray, List.set_cons_zero, List.set_cons_succ]
              refine wpAnyH_take (i := 4) (oi := ⟨some 78, _, _, _, _, _⟩) (v := ?_) rfl (by kernel_rfl) (by kernel_rfl) (by kernel_rfl) (fun _ _ _ h => h) (Or.inl ⟨by rfl, ?_⟩) (by assumption) ?_
              rotate_left 1
              · (intro w hSw; (try dsimp only at hSw); go_simp) <;> (with_reducible rfl)
              try simp only [Act.put, List.setIfInBounds_toArray, List.set_cons_zero, List.set_cons_succ]
              refine wpAnyH_take (i := 5) (oi := ⟨some 79, _, _, _, _, _⟩) (v := ?_) rfl (by kernel_rfl) (by kernel_rfl) (by kernel_rfl) (fun _ _ _ h => h) (Or.inl ⟨by rfl, ?_⟩) (by assumption) ?_
              rotate_left 1
              · (intro w hSw; (try dsimp only at hSw); go_simp) <;> (with_reducible rfl)
              try simp only [Act.put, List.setIfInBounds_toArray, List.set_cons_zero, List.set_cons_succ]
              refine wpAnyH_take (i := 6) (oi := ⟨some 80, _, _, _, _, _⟩) (v := ?_) rfl (by kernel_rfl) (by kernel_rfl) (by kernel_rfl) (fun _ _ _ h => h) (Or.inl ⟨by rfl, ?_⟩) (by assumption) ?_
              rotate_left 1
              · (intro w hSw; (try dsimp only at hSw); go_simp) <;> (with_reducible rfl)
              try simp only [Act.put, List.setIfInBounds_toArray, List.set_cons_zero, List.set_cons_succ]
              refine wpAnyH_take (i := 7) (oi := ⟨some 81, _, _, _, _, _⟩) (v := ?_) rfl (by kernel_rfl) (by kernel_rfl) (by kernel_rfl) (fun _ _ _ h => h) (Or.inl ⟨by rfl, ?_⟩) (by assumption) ?_
              rotate_left 1
              · (intro w hSw; (try dsimp only at hSw); go_simp) <;> (with_reducible rfl)
              try simp only [Act.put, List.setIfInBounds_toArray, List.set_cons_zero, List.set_cons_succ]
              refine wpAnyH_ready (rs := [8]) (by kernel_rfl) (by simp) ?_
              refine AllReadyH.cons (o := ⟨some 82, _, _, _, _, _⟩) rfl (fun K hK => ?_) AllReadyH.nil
              refine step_appF rfl (.tmp 77) (.tmp 81) 45 rfl 3 i0 (Value.int .i64 0) 8 Try.underlying45 hi hz0 hz1 hz2 rfl ⟨b2, o2, none⟩ ai (nints (R.take ai)) rfl (by rw [nints_len, List.length_take, HN.out]; omega) HRT.out (some ⟨b2, o2 + (ai + 1), none⟩) (c2 - (ai + 1)) (n2 - (ai + 1)) (nints (R.drop (ai + 1))) rfl (by rw [nints_len, List.length_drop, HN.out]) HRD.out (nints_one _) (fun h => by cases h) (by unfold maxLen; have := HS.out; omega) (by have := HS.out; omega) ?_
              intro A9 c9 w9 hg9
              have HZ : Hid (AAt w gc bm t7 k (R.take ai ++ R.drop (ai + 1)) A9 c9 w9) := by
                have hfr : Fr NoBlk w7 w9 := ((Fr.refl _ _).drew).trans hg9.fr
                refine ⟨HC7.out.nofr hfr, ?_, ?_, hg9.max, HUP.out, HBD.out, HF7.out.trans hfr, ?_⟩
                · have := hg9.rd
                  rwa [show nints (R.take ai) ++ nints (R.drop (ai + 1)) = nints (R.take ai ++ R.drop (ai + 1)) by unfold nints; rw [List.map_append]] at this
                · have := hg9.le; have := HLR.out; omega
                · have := HLR.out; have := HT7.out; have := HTL.out; have := HN.out; omega
              have HLE9 : Hid (ai + (n2 - (ai + 1)) ≤ c9) := hg9.le
              clear hg9 hHeld
              refine hK.out _ _ trivial (fun hHeld => ?_)
              clear hK K
              try simp only [Act.put, List.setIfInBounds_toArray, List.set_cons_zero, List.set_cons_succ]
              refine wpAnyH_take (i := 9) (oi := ⟨some 7, _, _, _, _, _⟩) (v := ?_) rfl (by kernel_rfl) (by kernel_rfl) (by kernel_rfl) (fun _ _ _ h => h) (Or.inl ⟨by rfl, ?_⟩) (by assumption) ?_
              rotate_left 1
              · (intro w hSw; (try dsimp only at hSw); go_simp) <;> (with_reducible rfl)
              try simp only [Act.put, List.setIfInBounds_toArray, List.set_cons_zero, List.set_cons_succ]
              refine wpAnyH_done (by kernel_rfl) ?_ _
              clear hHeld
              go_wp2_with fail
              go_roundw
              case rel => exact ⟨j + 1, ai + (n2 - (ai + 1)), R.take ai ++ R.drop (ai + 1), A9, c9, t7, HLE9.out, by omega, rfl, by go_num, HZ.out, by have := HLR.out; omega⟩
              case measure => simp [intOf]; omega
          · obtain ⟨ai, hai, hai'⟩ : ∃ ai : Nat, Value.int .i64 0 = Value.int .i64 (ai : Int) ∧ ai = 0 := ⟨0, rfl, rfl⟩
            have hain : ai < n2 := by omega
            have HAI := Lib.hid hai
            clear hai hai'
            have hjq : ¬ ((j : Int) < (pz.length : Int)) := by omega
            have hai0 : (0 : Int) ≤ (ai : Int) := by omega
            have hai1 : (ai : Int) < (n2 : Int) := by omega
            obtain ⟨r0, hr0⟩ : ∃ r0, R[0]? = some r0 := ⟨_, List.getElem?_eq_getElem (by rw [HN.out]; exact hpos)⟩
            obtain ⟨r, hr⟩ : ∃ r, R[ai]? = some r := ⟨_, List.getElem?_eq_getElem (by rw [HN.out]; exact hain)⟩
            obtain ⟨b2, o2, rfl, hcr⟩ := HA.out.rd.at_ (nints_get hr)
            obtain ⟨b2', o2', e2, hcr0⟩ := HA.out.rd.at_ (nints_get hr0)
            injection e2 with e2
            injection e2 with e2 e3
            subst e2 e3
            have hcr00 : wr.cell? ⟨b2, o2, none⟩ = some (.int .i64 (r0 : Int)) := by simpa using hcr0
            have hr64 : r < 64 := by have := HA.out.bd r (List.mem_of_getElem? hr); have := HS.out; omega
            have HRC : Hid (∀ W, Rd W (some ⟨b2, o2, none⟩) (nints R) → W.cell? ⟨b2, o2 + ai, none⟩ = some (.int .i64 (r : Int))) := fun W h => by
              obtain ⟨b', o', e, hc⟩ := h.at_ (nints_get hr)
              injection e with e
              injection e with e e'
              subst e e'
              exact hc
            have HLEN := Lib.hid fun W h => lenI_seq W w.heap.size gc bm t (ordM k R) h
            have hl0 : (seqV (ordM k R) 0).length = r0 := ord_len HS.out (fun j hj => by
              have hb0 := HA.out.bd r0 (List.mem_of_getElem? hr0)
              refine ⟨by omega, fun hm => ?_⟩
              obtain ⟨i, hi⟩ := List.mem_iff_getElem?.1 hm
              have hil := (List.getElem?_eq_some_iff.1 hi).1
              rcases Nat.eq_zero_or_pos i with e | e
              · subst e; rw [hr0] at hi; injection hi with hi; omega
              · have := List.pairwise_iff_getElem.1 HA.out.up 0 i (by omega) hil e
                rw [(List.getElem?_eq_some_iff.1 hi).2, (List.getElem?_eq_some_iff.1 hr0).2] at this
                omega) (.inr (List.mem_of_getElem? hr0))
            rw [hl0] at HLEN
            have HTL := Lib.hid HA.out.tl
            have hnx := ord_next HA.out.up HA.out.bd hr HS.out
            have HLE := Lib.hid fun W h => learnI_any W w.heap.size gc bm t (ordM k R) h (by have := HTL.out; have := HS.out; omega) r (wf64_of (by omega)) (3 * (r : Int))
            rw [hnx.1, hnx.2] at HLE
            unfold evI at HLE
            have HUP : Hid ((R.take ai ++ R.drop (ai + 1)).Pairwise (· < ·)) := HA.out.up.sublist (ord_sub hr)
            have HBD : Hid (∀ x ∈ R.take ai ++ R.drop (ai + 1), x < k) := fun x hx => HA.out.bd x ((ord_sub hr).subset hx)
            have HLR : Hid ((R.take ai ++ R.drop (ai + 1)).length + 1 = n2) := by
              show _ = _
              rw [List.length_append, List.length_take, List.length_drop, HN.out]
              omega
            have hwr3 : IntKind.i64.wrap (3 * (r : Int)) = 3 * (r : Int) := IntWalk.i64_in _ (by omega)
            have hnm1 : (ai : Int) + 1 ≤ (n2 : Int) := by omega
            have hnm2 : (n2 : Int) ≤ (c2 : Int) := by omega
            have hnm3 : (ai : Int) ≤ (c2 : Int) := by omega
            have hnm4 : (0 : Int) ≤ (ai : Int) + 1 := by omega
            have hnm5 : (ai : Int) ≤ (ai : Int) + 1 := by omega
            have hwra : IntKind.i64.wrap ((ai : Int) + 1) = (ai : Int) + 1 := IntWalk.i64_in _ (by have := HS.out; omega)
            have hwrj : IntKind.i64.wrap ((j : Int) + 1) = (j : Int) + 1 := IntWalk.i64_in _ (by have := HS.out; omega)
            clear hl0 hnx hr hr0
            go_wp2_with fail
            rw [HAI.out]
            refine wp_region_held_drew (S := fun w' => w'.cell? ⟨b2, o2 + ai, none⟩ = some (.int .i64 (r : Int))) (by kernel_rfl) (HRC.out _ (HA.out.rd.nofr (Fr.refl _ _).drew)) (fun hHeld => ?_)
            refine wpAnyH_take (i := 0) (oi := ⟨some 56, _, _, _, _, _⟩) (v := ?_) rfl (by kernel_rfl) (by kernel_rfl) (by kernel_rfl) (fun _ _ _ h => h) (Or.inl ⟨by rfl, ?_⟩) (by assumption) ?_
            rotate_left 1
            · (intro w hSw; (try dsimp only at hSw); go_simp) <;> (with_reducible rfl)
            try simp only [Act.put, List.setIfInBounds_toArray, List.set_cons_zero, List.set_cons_succ]
            refine wpAnyH_take (i := 2) (oi := ⟨some 58, _, _, _, _, _⟩) (v := ?_) rfl (by kernel_rfl) (by kernel_rfl) (by kernel_rfl) (fun _ _ _ h => h) (Or.inl ⟨by rfl, ?_⟩) (by assumption) ?_
            rotate_left 1
            · (intro w hSw; (try dsimp only at hSw); go_simp) <;> (with_reducible rfl)
            try simp only [Act.put, List.setIfInBounds_toArray, List.set_cons_zero, List.set_cons_succ]
            refine wpAnyH_ready (rs := [1]) (by kernel_rfl) (by simp) ?_
            refine AllReadyH.cons (o := ⟨some 57, _, _, _, _, _⟩) rfl (fun K hK => ?_) AllReadyH.nil
            go_simp
            go_at_call 19
            refine (HLEN.out _ (HA.out.ch.nofr (Fr.refl _ _).drew)).mono ?_
            rintro e w6 ⟨rfl, hf6⟩
            have HF6 : Hid (Fr NoBlk wr w6) := ((Fr.refl _ _).drew).trans hf6
            have HC6 := Lib.hid (HA.out.ch.nofr HF6.out)
            have HR6 := Lib.hid (HA.out.rd.nofr HF6.out)
            clear hf6 hHeld
            refine hK.out _ _ ?_ (fun hHeld => ?_)
            · exact HRC.out _ HR6.out
            clear hK K
            try simp only [Act.put, List.setIfInBounds_toArray, List.set_cons_zero, List.set_cons_succ]
            refine wpAnyH_take (i := 3) (oi := ⟨some 59, _, _, _, _, _⟩) (v := ?_) rfl (by kernel_rfl) (by kernel_rfl) (by kernel_rfl) (fun _ _ _ h => h) (Or.inl ⟨by rfl, ?_⟩) (by assumption) ?_
            rotate_left 1
            · (intro w hSw; (try dsimp only at hSw); go_simp) <;> (with_reducible rfl)
            try simp only [Act.put, List.setIfInBounds_toArray, List.set_cons_zero, List.set_cons_succ]
            refine wpAnyH_take (i := 4) (oi := ⟨some 60, _, _, _, _, _⟩) (v := ?_) rfl (by kernel_rfl) (by kernel_rfl) (by kernel_rfl) (fun _ _ _ h => h) (Or.inl ⟨by rfl, ?_⟩) (by assumption) ?_
            rotate_left 1
            · (intro w hSw; (try dsimp only at hSw); go_simp) <;> (with_reducible rfl)
            try simp only [Act.put, List.setIfInBounds_toArray, List.set_cons_zero, List.set_cons_succ]
            refine wpAnyH_take (i := 5) (oi := ⟨some 61, _, _, _, _, _⟩) (v := ?_) rfl (by kernel_rfl) (by kernel_rfl) (by kernel_rfl) (fun _ _ _ h => h) (Or.inl ⟨by rfl, ?_⟩) (by assumption) ?_
            rotate_left 1
            · (intro w hSw; (try dsimp only at hSw); go_simp) <;> (with_reducible rfl)
            try simp only [Act.put, List.setIfInBounds_toArray, List.set_cons_zero, List.set_cons_succ]
            refine wpAnyH_take (i := 6) (oi := ⟨some 62, _, _, _, _, _⟩) (v := ?_) rfl (by kernel_rfl) (by kernel_rfl) (by kernel_rfl) (fun _ _ _ h => h) (Or.inl ⟨by rfl, ?_⟩) (by assumption) ?_
            rotate_left 1
            · (intro w hSw; (try dsimp only at hSw); go_simp) <;> (with_reducible rfl)
            try simp only [Act.put, List.setIfInBounds_toArray, List.set_cons_zero, List.set_cons_succ]
            refine wpAnyH_take (i := 7) (oi := ⟨some 63, _, _, _, _, _⟩) (v := ?_) rfl (by kernel_rfl) (by kernel_rfl) (by kernel_rfl) (fun _ _ _ h => h) (Or.inl ⟨by rfl, ?_⟩) (by assumption) ?_
            rotate_left 1
            · (intro w hSw; (try dsimp only at hSw); go_simp) <;> (with_reducible rfl)
            try simp only [Act.put, List.setIfInBounds_toArray, List.set_cons_zero, List.set_cons_succ]
            refine wpAnyH_take (i := 8) (oi := ⟨some 64, _, _, _, _, _⟩) (v := ?_) rfl (by kernel_rfl) (by kernel_rfl) (by kernel_rfl) (fun _ _ _ h => h) (Or.inl ⟨by rfl, ?_⟩) (by assumption) ?_
            rotate_left 1
            · (intro w hSw; (try dsimp only at hSw); go_simp) <;> (with_reducible rfl)
            try simp only [Act.put, List.setIfInBounds_toArray, List.set_cons_zero, List.set_cons_succ]
            refine wpAnyH_take (i := 9) (oi := ⟨some 65, _, _, _, _, _⟩) (v := ?_) rfl (by kernel_rfl) (by kernel_rfl) (by kernel_rfl) (fun _ _ _ h => h) (Or.inl ⟨by rfl, ?_⟩) (by assumption) ?_
            rotate_left 1
            · (intro w hSw; (try dsimp only at hSw); go_simp) <;> (with_reducible rfl)
            try simp only [Act.put, List.setIfInBounds_toArray, List.set_cons_zero, List.set_cons_succ]
            refine wpAnyH_take (i := 10) (oi := ⟨some 66, _, _, _, _, _⟩) (v := ?_) rfl (by kernel_rfl) (by kernel_rfl) (by kernel_rfl) (fun _ _ _ h => h) (Or.inl ⟨by rfl, ?_⟩) (by assumption) ?_
            rotate_left 1
            · (intro w hSw; (try dsimp only at hSw); go_simp) <;> (with_reducible rfl)
            try simp only [Act.put, List.setIfInBounds_toArray, List.set_cons_zero, List.set_cons_succ]
            refine wpAnyH_take (i := 11) (oi := ⟨some 67, _, _, _, _, _⟩) (v := ?_) rfl (by kernel_rfl) (by kernel_rfl) (by kernel_rfl) (fun _ _ _ h => h) (Or.inl ⟨by rfl, ?_⟩) (by assumption) ?_
            rotate_left 1
            · (intro w hSw; (try dsimp only at hSw); go_simp) <;> (with_reducible rfl)
            try simp only [Act.put, List.setIfInBounds_toArray, List.set_cons_zero, List.set_cons_succ]
            refine wpAnyH_take (i := 12) (oi := ⟨some 68, _, _, _, _, _⟩) (v := ?_) rfl (by kernel_rfl) (by kernel_rfl) (by kernel_rfl) (fun _ _ _ h => h) (Or.inl ⟨by rfl, ?_⟩) (by assumption) ?_
            rotate_left 1
            · (intro w hSw; (try dsimp only at hSw); go_simp) <;> (with_reducible rfl)
            try simp only [Act.put, List.setIfInBounds_toArray, List.set_cons_zero, List.set_cons_succ]
            refine wpAnyH_take (i := 13) (oi := ⟨some 69, _, _, _, _, _⟩) (v := ?_) rfl (by kernel_rfl) (by kernel_rfl) (by kernel_rfl) (fun _ _ _ h => h) (Or.inl ⟨by rfl, ?_⟩) (by assumption) ?_
            rotate_left 1
            · (intro w hSw; (try dsimp only at hSw); go_simp) <;> (with_reducible rfl)
            try simp only [Act.put, List.setIfInBounds_toArray, List.set_cons_zero, List.set_cons_succ]
            refine wpAnyH_take (i := 14) (oi := ⟨some 70, _, _, _, _, _⟩) (v := ?_) rfl (by kernel_rfl) (by kernel_rfl) (by kernel_rfl) (fun _ _ _ h => h) (Or.inl ⟨by rfl, ?_⟩) (by assumption) ?_
            rotate_left 1
            · (intro w hSw; (try dsimp only at hSw); go_simp) <;> (with_reducible rfl)
            try simp only [Act.put, List.setIfInBounds_toArray, List.set_cons_zero, List.set_cons_succ]
            refine wpAnyH_ready (rs := [15]) (by kernel_rfl) (by simp) ?_
            refine AllReadyH.cons (o := ⟨some 71, _, _, _, _, _⟩) rfl (fun K hK => ?_) AllReadyH.nil
            go_simp
            go_at_call 20
            refine (HLE.out _ HC6.out).mono ?_
            rintro e w7 ⟨rfl, t7, ht7, hc7, hf7⟩
            have HT7 := Lib.hid ht7
            have HC7 := Lib.hid hc7
            have HR7 := Lib.hid (HR6.out.km HC6.out.km hf7)
            have HF7 : Hid (Fr NoBlk w w7) := (HA.out.fr.trans HF6.out).step hf7 (fun i hi e => by have := HC6.out.b2; omega)
            clear ht7 hc7 hf7 hHeld
            refine hK.out _ _ ?_ (fun hHeld => ?_)
            · exact HRC.out _ HR7.out
            clear hK K
            try simp only [Act.put, List.setIfInBounds_toArray, List.set_cons_zero, List.set_cons_succ]
            refine wpAnyH_take (i := 16) (oi := ⟨some 72, _, _, _, _, _⟩) (v := ?_) rfl (by kernel_rfl) (by kernel_rfl) (by kernel_rfl) (fun _ _ _ h => h) (Or.inl ⟨by rfl, ?_⟩) (by assumption) ?_
            rotate_left 1
            · (intro w hSw; (try dsimp only at hSw); go_simp) <;> (with_reducible rfl)
            try simp only [Act.put, List.setIfInBounds_toArray, List.set_cons_zero, List.set_cons_succ]
            refine wpAnyH_take (i := 17) (oi := ⟨some 73, _, _, _, _, _⟩) (v := ?_) rfl (by kernel_rfl) (by kernel_rfl) (by kernel_rfl) (fun _ _ _ h => h) (Or.inl ⟨by rfl, ?_⟩) (by assumption) ?_
            rotate_left 1
            · (intro w hSw; (try dsimp only at hSw); go_simp) <;> (with_reducible rfl)
            try simp only [Act.put, List.setIfInBounds_toArray, List.set_cons_zero, List.set_cons_succ]
            refine wpAnyH_done (by kernel_rfl) ?_ _
            clear hHeld
            have HRT : Hid (Rd w7.drew (some ⟨b2, o2, none⟩) (nints (R.take ai))) := by
              show Rd _ _ _
              rw [nints_take]
              exact (HR7.out.take ai).nofr (Fr.refl _ _).drew
            have hcut := HR7.out.cut (k := ai + 1) (cap := c2) (by rw [nints_len, HN.out]; omega) (by rw [nints_len, HN.out]; exact hnc)
            rw [← nints_drop] at hcut
            by_cases hce : c2 = ai + 1
            · rw [if_pos hce] at hcut
              have HRD : Hid (Rd w7.drew (some ⟨b2, o2, none⟩) (nints (R.drop (ai + 1)))) := hcut.nofr (Fr.refl _ _).drew
              have hb8 : (c2 : Int) = (ai : Int) + 1 := by omega
              clear hcut
              go_wp2_with fail
              refine wp_region_held_drew (S := fun _ => True) (by kernel_rfl) trivial (fun hHeld => ?_)
              refine wpAnyH_take (i := 0) (oi := ⟨some 74, _, _, _, _, _⟩) (v := ?_) rfl (by kernel_rfl) (by kernel_rfl) (by kernel_rfl) (fun _ _ _ h => h) (Or.inl ⟨by rfl, ?_⟩) (by assumption) ?_
              rotate_left 1
              · (intro w hSw; (try dsimp only at hSw); go_simp) <;> (with_reducible rfl)
              try simp only [Act.put, List.setIfInBounds_toArray, List.set_cons_zero, List.set_cons_succ]
              refine wpAnyH_take (i := 1) (oi := ⟨some 75, _, _, _, _, _⟩) (v := ?_) rfl (by kernel_rfl) (by kernel_rfl) (by kernel_rfl) (fun _ _ _ h => h) (Or.inl ⟨by rfl, ?_⟩) (by assumption) ?_
              rotate_left 1
              · (intro w hSw; (try dsimp only at hSw); go_simp) <;> (with_reducible rfl)
              try simp only [Act.put, List.setIfInBounds_toArray, List.set_cons_zero, List.set_cons_succ]
              refine wpAnyH_take (i := 2) (oi := ⟨some 76, _, _, _, _, _⟩) (v := ?_) rfl (by kernel_rfl) (by kernel_rfl) (by kernel_rfl) (fun _ _ _ h => h) (Or.inl ⟨by rfl, ?_⟩) (by assumption) ?_
              rotate_left 1
              · (intro w hSw; (try dsimp only at hSw); go_simp) <;> (with_reducible rfl)
              try simp only [Act.put, List.setIfInBounds_toArray, List.set_cons_zero, List.set_cons_succ]
              refine wpAnyH_take (i := 3) (oi := ⟨some 77, _, _, _, _, _⟩) (v := ?_) rfl (by kernel_rfl) (by kernel_rfl) (by kernel_rfl) (fun _ _ _ h => h) (Or.inl ⟨by rfl, ?_⟩) (by assumption) ?_
              rotate_left 1
              · (intro w hSw; (try dsimp only at hSw); go_simp) <;> (with_reducible rfl)
              try simp only [Act.put, List.setIfInBounds_toArray, List.set_cons_zero, List.set_cons_succ]
              refine wpAnyH_take (i := 4) (oi := ⟨some 78, _, _, _, _, _⟩) (v := ?_) rfl (by kernel_rfl) (by kernel_rfl) (by kernel_rfl) (fun _ _ _ h => h) (Or.inl ⟨by rfl, ?_⟩) (by assumption) ?_
              rotate_left 1
              · (intro w hSw; (try dsimp only at hSw); go_simp) <;> (with_reducible rfl)
              try simp only [Act.put, List.setIfInBounds_toArray, List.set_cons_zero, List.set_cons_succ]
              refine wpAnyH_take (i := 5) (oi := ⟨some 79, _, _, _, _, _⟩) (v := ?_) rfl (by kernel_rfl) (by kernel_rfl) (by kernel_rfl) (fun _ _ _ h => h) (Or.inl ⟨by rfl, ?_⟩) (by assumption) ?_
              rotate_left 1
              · (intro w hSw; (try dsimp only at hSw); go_simp) <;> (with_reducible rfl)
              try simp only [Act.put, List.setIfInBounds_toArray, List.set_cons_zero, List.set_cons_succ]
              refine wpAnyH_take (i := 6) (oi := ⟨some 80, _, _, _, _, _⟩) (v := ?_) rfl (by kernel_rfl) (by kernel_rfl) (by kernel_rfl) (fun _ _ _ h => h) (Or.inl ⟨by rfl, ?_⟩) (by assumption) ?_
              rotate_left 1
              · (intro w hSw; (try dsimp only at hSw); go_simp) <;> (with_reducible rfl)
              try simp only [Act.put, List.setIfInBounds_toArray, List.set_cons_zero, List.set_cons_succ]
              refine wpAnyH_take (i := 7) (oi := ⟨some 81, _, _, _, _, _⟩) (v := ?_) rfl (by kernel_rfl) (by kernel_rfl) (by kernel_rfl) (fun _ _ _ h => h) (Or.inl ⟨by rfl, ?_⟩) (by assumption) ?_
              rotate_left 1
              · (intro w hSw; (try dsimp only at hSw); go_simp) <;> (with_reducible rfl)
              try simp only [Act.put, List.setIfInBounds_toArray, List.set_cons_zero, List.set_cons_succ]
              refine wpAnyH_ready (rs := [8]) (by kernel_rfl) (by simp) ?_
              refine AllReadyH.cons (o := ⟨some 82, _, _, _, _, _⟩) rfl (fun K hK => ?_) AllReadyH.nil
              refine step_appF rfl (.tmp 77) (.tmp 81) 45 rfl 3 i0 (Value.int .i64 0) 8 Try.underlying45 hi hz0 hz1 hz2 rfl ⟨b2, o2, none⟩ ai (nints (R.take ai)) rfl (by rw [nints_len, List.length_take, HN.out]; omega) HRT.out (some ⟨b2, o2, none⟩) 0 (n2 - (ai + 1)) (nints (R.drop (ai + 1))) rfl (by rw [nints_len, List.length_drop, HN.out]) HRD.out (nints_one _) (fun h => by cases h) (by unfold maxLen; have := HS.out; omega) (by have := HS.out; omega) ?_
              intro A9 c9 w9 hg9
              have HZ : Hid (AAt w gc bm t7 k (R.take ai ++ R.drop (ai + 1)) A9 c9 w9) := by
                have hfr : Fr NoBlk w7 w9 := ((Fr.refl _ _).drew).trans hg9.fr
                refine ⟨HC7.out.nofr hfr, ?_, ?_, hg9.max, HUP.out, HBD.out, HF7.out.trans hfr, ?_⟩
                · have := hg9.rd
                  rwa [show nints (R.take ai) ++ nints (R.drop (ai + 1)) = nints (R.take ai ++ R.drop (ai + 1)) by unfold nints; rw [List.map_append]] at this
                · have := hg9.le; have := HLR.out; omega
                · have := HLR.out; have := HT7.out; have := HTL.out; have := HN.out; omega
              have HLE9 : Hid (ai + (n2 - (ai + 1)) ≤ c9) := hg9.le
              clear hg9 hHeld
              refine hK.out _ _ trivial (fun hHeld => ?_)
              clear hK K
              try simp only [Act.put, List.setIfInBounds_toArray, List.set_cons_zero, List.set_cons_succ]
              refine wpAnyH_take (i := 9) (oi := ⟨some 7, _, _, _, _, _⟩) (v := ?_) rfl (by kernel_rfl) (by kernel_rfl) (by kernel_rfl) (fun _ _ _ h => h) (Or.inl ⟨by rfl, ?_⟩) (by assumption) ?_
              rotate_left 1
              · (intro w hSw; (try dsimp only at hSw); go_simp) <;> (with_reducible rfl)
              try simp only [Act.put, List.setIfInBounds_toArray, List.set_cons_zero, List.set_cons_succ]
              refine wpAnyH_done (by kernel_rfl) ?_ _
              clear hHeld
              go_wp2_with fail
              go_roundw
              case rel => exact ⟨j + 1, ai + (n2 - (ai + 1)), R.take ai ++ R.drop (ai + 1), A9, c9, t7, HLE9.out, by omega, rfl, by go_num, HZ.out, by have := HLR.out; omega⟩
              case measure => simp [intOf]; omega
            · rw [if_neg hce] at hcut
              have HRD : Hid (Rd w7.drew (some ⟨b2, o2 + (ai + 1), none⟩) (nints (R.drop (ai + 1)))) := by
                have h := hcut.nofr (w' := w7.drew) (Fr.refl _ _).drew
                simp only [Option.map_some, add_lit] at h
                exact h
              have hb8 : ¬ ((c2 : Int) = (ai : Int) + 1) := by omega
              clear hcut
              go_wp2_with fail
              refine wp_region_held_drew (S := fun _ => True) (by kernel_rfl) trivial (fun hHeld => ?_)
              refine wpAnyH_take (i := 0) (oi := ⟨some 74, _, _, _, _, _⟩) (v := ?_) rfl (by kernel_rfl) (by kernel_rfl) (by kernel_rfl) (fun _ _ _ h => h) (Or.inl ⟨by rfl, ?_⟩) (by assumption) ?_
              rotate_left 1
              · (intro w hSw; (try dsimp only at hSw); go_simp) <;> (with_reducible rfl)
              try simp only [Act.put, List.setIfInBounds_toArray, List.set_cons_zero, List.set_cons_succ]
              refine wpAnyH_take (i := 1) (oi := ⟨some 75, _, _, _, _, _⟩) (v := ?_) rfl (by kernel_rfl) (by kernel_rfl) (by kernel_rfl) (fun _ _ _ h => h) (Or.inl ⟨by rfl, ?_⟩) (by assumption) ?_
              rotate_left 1
              · (intro w hSw; (try dsimp only at hSw); go_simp) <;> (with_reducible rfl)
              try simp only [Act.put, List.setIfInBounds_toArray, List.set_cons_zero, List.set_cons_succ]
              refine wpAnyH_take (i := 2) (oi := ⟨some 76, _, _, _, _, _⟩) (v := ?_) rfl (by kernel_rfl) (by kernel_rfl) (by kernel_rfl) (fun _ _ _ h => h) (Or.inl ⟨by rfl, ?_⟩) (by assumption) ?_
              rotate_left 1
              · (intro w hSw; (try dsimp only at hSw); go_simp) <;> (with_reducible rfl)
              try simp only [Act.put, List.setIfInBounds_toArray, List.set_cons_zero, List.set_cons_succ]
              refine wpAnyH_take (i := 3) (oi := ⟨some 77, _, _, _, _, _⟩) (v := ?_) rfl (by kernel_rfl) (by kernel_rfl) (by kernel_rfl) (fun _ _ _ h => h) (Or.inl ⟨by rfl, ?_⟩) (by assumption) ?_
              rotate_left 1
              · (intro w hSw; (try dsimp only at hSw); go_simp) <;> (with_reducible rfl)
              try simp only [Act.put, List.setIfInBounds_toArray, List.set_cons_zero, List.set_cons_succ]
              refine wpAnyH_take (i := 4) (oi := ⟨some 78, _, _, _, _, _⟩) (v := ?_) rfl (by kernel_rfl) (by kernel_rfl) (by kernel_rfl) (fun _ _ _ h => h) (Or.inl ⟨by rfl, ?_⟩) (by assumption) ?_
              rotate_left 1
              · (intro w hSw; (try dsimp only at hSw); go_simp) <;> (with_reducible rfl)
              try simp only [Act.put, List.setIfInBounds_toArray, List.set_cons_zero, List.set_cons_succ]
              refine wpAnyH_take (i := 5) (oi := ⟨some 79, _, _, _, _, _⟩) (v := ?_) rfl (by kernel_rfl) (by kernel_rfl) (by kernel_rfl) (fun _ _ _ h => h) (Or.inl ⟨by rfl, ?_⟩) (by assumption) ?_
              rotate_left 1
              · (intro w hSw; (try dsimp only at hSw); go_simp) <;> (with_reducible rfl)
              try simp only [Act.put, List.setIfInBounds_toArray, List.set_cons_zero, List.set_cons_succ]
              refine wpAnyH_take (i := 6) (oi := ⟨some 80, _, _, _, _, _⟩) (v := ?_) rfl (by kernel_rfl) (by kernel_rfl) (by kernel_rfl) (fun _ _ _ h => h) (Or.inl ⟨by rfl, ?_⟩) (by assumption) ?_
              rotate_left 1
              · (intro w hSw; (try dsimp only at hSw); go_simp) <;> (with_reducible rfl)
              try simp only [Act.put, List.setIfInBounds_toArray, List.set_cons_zero, List.set_cons_succ]
              refine wpAnyH_take (i := 7) (oi := ⟨some 81, _, _, _, _, _⟩) (v := ?_) rfl (by kernel_rfl) (by kernel_rfl) (by kernel_rfl) (fun _ _ _ h => h) (Or.inl ⟨by rfl, ?_⟩) (by assumption) ?_
              rotate_left 1
              · (intro w hSw; (try dsimp only at hSw); go_simp) <;> (with_reducible rfl)
              try simp only [Act.put, List.setIfInBounds_toArray, List.set_cons_zero, List.set_cons_succ]
              refine wpAnyH_ready (rs := [8]) (by kernel_rfl) (by simp) ?_
              refine AllReadyH.cons (o := ⟨some 82, _, _, _, _, _⟩) rfl (fun K hK => ?_) AllReadyH.nil
              refine step_appF rfl (.tmp 77) (.tmp 81) 45 rfl 3 i0 (Value.int .i64 0) 8 Try.underlying45 hi hz0 hz1 hz2 rfl ⟨b2, o2, none⟩ ai (nints (R.take ai)) rfl (by rw [nints_len, List.length_take, HN.out]; omega) HRT.out (some ⟨b2, o2 + (ai + 1), none⟩) (c2 - (ai + 1)) (n2 - (ai + 1)) (nints (R.drop (ai + 1))) rfl (by rw [nints_len, List.length_drop, HN.out]) HRD.out (nints_one _) (fun h => by cases h) (by unfold maxLen; have := HS.out; omega) (by have := HS.out; omega) ?_
              intro A9 c9 w9 hg9
              have HZ : Hid (AAt w gc bm t7 k (R.take ai ++ R.drop (ai + 1)) A9 c9 w9) := by
                have hfr : Fr NoBlk w7 w9 := ((Fr.refl _ _).drew).trans hg9.fr
                refine ⟨HC7.out.nofr hfr, ?_, ?_, hg9.max, HUP.out, HBD.out, HF7.out.trans hfr, ?_⟩
                · have := hg9.rd
                  rwa [show nints (R.take ai) ++ nints (R.drop (ai + 1)) = nints (R.take ai ++ R.drop (ai + 1)) by unfold nints; rw [List.map_append]] at this
                · have := hg9.le; have := HLR.out; omega
                · have := HLR.out; have := HT7.out; have := HTL.out; have := HN.out; omega
              have HLE9 : Hid (ai + (n2 - (ai + 1)) ≤ c9) := hg9.le
              clear hg9 hHeld
              refine hK.out _ _ trivial (fun hHeld => ?_)
              clear hK K
              try simp only [Act.put, List.setIfInBounds_toArray, List.set_cons_zero, List.set_cons_succ]
              refine wpAnyH_take (i := 9) (oi := ⟨some 7, _, _, _, _, _⟩) (v := ?_) rfl (by kernel_rfl) (by kernel_rfl) (by kernel_rfl) (fun _ _ _ h => h) (Or.inl ⟨by rfl, ?_⟩) (by assumption) ?_
              rotate_left 1
              · (intro w hSw; (try dsimp only at hSw); go_simp) <;> (with_reducible rfl)
              try simp only [Act.put, List.setIfInBounds_toArray, List.set_cons_zero, List.set_cons_succ]
              refine wpAnyH_done (by kernel_rfl) ?_ _
              clear hHeld
              go_wp2_with fail
              go_roundw
              case rel => exact ⟨j + 1, ai + (n2 - (ai + 1)), R.take ai ++ R.drop (ai + 1), A9, c9, t7, HLE9.out, by omega, rfl, by go_num, HZ.out, by have := HLR.out; omega⟩
              case measure => simp [intOf]; omega
        · have e : n2 = 0 := by omega
          have hR0 : R = [] := List.eq_nil_of_length_eq_zero (by rw [HN.out, e])
          subst e hR0
          clear hnc hpos
          have HD0 := Lib.hid HA.out.ch.dom
          have HF9 := Lib.hid fun W h => fromI_any W w.heap.size gc bm t (ordM k []) h 0 100 (wf64_of (by omega))
          have HLN := Lib.hid fun W h => lenI_seq W w.heap.size gc bm t (ordM k []) h
          rw [ord_len HS.out (l := k) (fun j hj => ⟨hj, by simp⟩) (.inl (Nat.le_refl _))] at HLN
          have hlen : (seqV (ordM k []) 0).length = k := ord_len HS.out (fun j hj => ⟨hj, by simp⟩) (.inl (Nat.le_refl _))
          have hget : Hid (∀ i, i < k → (seqV (ordM k []) 0)[i]? = some (3 * (i : Int))) := fun i hi => by
            refine known_get HD0.out (fun j hj => ?_) ?_
            · rw [Int.zero_add, ordM_in (by omega) (by simp)]; rfl
            · rw [Int.zero_add, ordM_in hi (by simp)]
          rw [List.take_of_length_le (by rw [hlen]; exact Nat.le_trans HS.out (by decide)), hlen] at HF9
          generalize seqV (ordM k []) 0 = SQ at *
          clear hlen
          go_wp2_with fail
          refine (HF9.out _ HA.out.ch).mono ?_
          clear HF9
          rintro e w6 ⟨v6, rfl, ho6, hf6⟩
          obtain ⟨A6, c6, rfl, hc6, _⟩ := own_form ho6
          have HO6 : Hid (Rd w6 A6 (SQ.map evI)) := Rd.of_own ho6
          have HC6 := Lib.hid (HA.out.ch.nofr hf6)
          have HF6 := Lib.hid (HA.out.fr.trans hf6)
          clear ho6 hf6 HA HN
          go_wp2_with fail
          go_loopw [87] (fun s wr => ∃ i : Nat, i ≤ k ∧ s = .int .i64 i ∧ Hid (w6 = wr)) (fun s _ => k - (intOf s).toNat)
          case atStart => exact ⟨0, Nat.zero_le _, rfl, rfl⟩
          case round =>
            obtain ⟨i, hik, rfl, hw⟩ := hrel
            obtain rfl := hw.out
            clear hw
            by_cases hi3 : i < k
            · obtain ⟨b6, o6, rfl, hc⟩ := HO6.out.at_ (k := i) (v := .int .i64 (3 * (i : Int))) (by rw [List.getElem?_map, hget.out i hi3]; rfl)
              have hi0 : (0 : Int) ≤ (i : Int) := by omega
              have hi1 : (i : Int) < (k : Int) := by omega
              have hwr3 : IntKind.i64.wrap (3 * (i : Int)) = 3 * (i : Int) := IntWalk.i64_in _ (by omega)
              have hwr1 : IntKind.i64.wrap ((i : Int) + 1) = (i : Int) + 1 := IntWalk.i64_in _ (by omega)
              go_wp2_with fail
              go_roundw
              case rel => exact ⟨i + 1, by omega, by go_num, by trivial⟩
              case measure => simp [intOf]; omega
            · obtain rfl : i = k := by omega
              clear hi3 hik
              go_wp2_with fail
              refine (HLN.out _ HC6.out).mono ?_
              rintro e w8 ⟨rfl, hf8⟩
              have HF8 := Lib.hid (HF6.out.trans hf8)
              clear hf8
              go_wp2_with fail
              go_ret
              exact ⟨rfl, HF8.out⟩

theorem paramsOk : ∀ t ∈ Try.f6.params.toList, Try.prog.readableRec t = true ∧ t < Try.prog.types.size := fun t ht => by
  have h := List.all_eq_true.1 (show (Try.f6.params.toList.all fun t => Try.prog.readableRec t && decide (t < Try.prog.types.size)) = true by kernel_rfl) t ht
  simpa using h

set_option maxRecDepth 100000 in
theorem lifted (os : Os) (started : os.Started) (H : Type) (enc : TypeId × Value → H) :
    ReturnsInHanded {} Try.checked os 6 .any (Rows.learnAnyOrderSpec.pre6 enc Try.prog Try.f6 Rows.learnAnyOrderRow.domain false) (Rows.learnAnyOrderSpec.post enc Try.prog Try.f6 false true false false) := by
  refine returnsInHanded_of_change (C := Try.checked) own started (by kernel_rfl) Try.func6
    (ChangeSpec.witness6 (enc := enc) (C := Try.checked) false ⟨#[], #[.int .i64 0, .slice none 0 0], []⟩ 8 (by kernel_rfl) (by kernel_rfl) (by kernel_rfl) (by kernel_rfl)) ?_
  intro W base args ds gs before hval0 hW _ _
  have hval : ∀ (j : Nat) t v, Try.f6.params[j]? = some t → args[j]? = some v → Value.okWide Try.prog W .any base t v := hval0
  have hW' := hW
  obtain ⟨p, q, hA0, hV, rfl, _, _⟩ := hW
  have hA : DataW.TrodAll enc Try.prog W 0 (fun _ => true) true Try.f6.params.toList args.toList ds p := hA0
  rw [Try.params6] at hA hval
  obtain ⟨v0, vs0, d0, ds0, p0, q0, hargs, rfl, rfl, h0, r0⟩ := trodAll_cons hA
  obtain ⟨v1, vs1, d1, ds1, p1, q1, rfl, rfl, rfl, h1, r1⟩ := trodAll_cons r0
  obtain ⟨rfl, rfl, rfl⟩ := trodAll_nil r1
  obtain rfl : args = #[v0, v1] := by cases args; simp_all
  obtain ⟨rfl, rfl⟩ := trodVars_none hV
  obtain ⟨z0, rfl, rfl, rfl, w0⟩ := open_int Try.underlying3 (hval 0 _ v0 rfl rfl) h0
  obtain ⟨A, c, l, rfl, hr, hA', hn, hm⟩ := open_ints1 (hval 1 _ v1 rfl rfl) h1
  have walk := walk W z0 A c l hr (Nat.le_trans hn hm)
  clear hA0 hval0
  refine walk.mono fun e W' ⟨he, hf⟩ => ?_
  subst he
  exact ⟨_, rfl, law_post laidOut paramsOk rfl rfl Try.underlying4 hW' rfl rfl rfl hf⟩

theorem said : Rows.LearnAnyOrderSaid :=
  OpenClaim.holds_of_wide 6 Try.f6 rfl rfl rfl rfl rfl rfl rfl ⟨rfl, rfl, rfl, rfl, rfl⟩ rfl rfl rfl rfl rfl (by kernel_rfl) Try.func6 (by kernel_rfl)
    (of_decide_eq_true (by kernel_rfl)) (by unfold Func.isWrapper; first | (rw [if_pos (by decide +kernel)]; kernel_rfl) | (rw [if_neg (by decide +kernel)]; exact ⟨rfl, rfl⟩))
    (fun os started H enc _ => lifted os started H enc)
end Go.Proofs.Ytpldfdeikcaenaa.learnAnyOrder
