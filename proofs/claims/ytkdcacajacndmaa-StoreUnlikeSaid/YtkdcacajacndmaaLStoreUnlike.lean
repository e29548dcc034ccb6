/- StoreUnlike is true: two stores have the same bytes just if they have the same records. No condition. -/
import Derived.Test.YtkdcacajacndmaaSpk6
import Derived.Test.YtkdcacajacndmaaDo6
import Derived.Test.YtkdcacajacndmaaRfA
import Derived.ChangeMaps5
import Derived.Lib.Hide
import Derived.Test.YtkdcacajacndmaaTri
import Derived.Deep.RegionHeld3
namespace Go.Proofs.Ytkdcacajacndmaa.storeUnlike
open Go.ChangeShapes Go.WideShapes Go.ChangeAt Go.RowKit
theorem OpIn.nofr {W W' : World} {x : Opn} (h : OpIn W x) (hf : Fr NoBlk W W') : OpIn W' x := ⟨⟨⟨h.1.1.1.nofr hf, h.1.1.2⟩, h.1.2⟩, h.2⟩
set_option maxRecDepth 100000 in
set_option maxHeartbeats 4000000 in
theorem walk (W : World) (A : Option Addr) (c : Nat) (xs : List Opn) (hr : Rd W A (opsc xs)) (hx : ∀ x ∈ xs, OpIn W x) (hm : xs.length ≤ maxLen) (B : Option Addr) (d : Nat) (ys : List Opn) (hr2 : Rd W B (opsc ys)) (hx2 : ∀ x ∈ ys, OpIn W x) (hm2 : ys.length ≤ maxLen) :
    Calls Try.prog 9 #[.slice A xs.length c, .slice B ys.length d] W fun e W' => e = .returned (.bool true) ∧ Fr NoBlk W W' := by
  have HS := Lib.hid (@speaks_any ⟨none⟩ W fun k e => by cases e)
  have HR := Lib.hid (And.intro hr (And.intro hx hm))
  have HRY := Lib.hid (And.intro hr2 (And.intro hx2 hm2))
  obtain ⟨N, hN⟩ : ∃ N, N = xs.length := ⟨_, rfl⟩
  obtain ⟨M, hM⟩ : ∃ N, N = ys.length := ⟨_, rfl⟩
  have HNN := Lib.hid hN
  have HMM := Lib.hid hM
  rw [← hN, ← hM]
  clear hr hx hm hr2 hx2 hm2 hN hM
  go_enter Try.func9, Try.ntmps9
  go_wp2_with fail
  refine HS.out.mono ?_
  clear HS
  rintro e w1 ⟨rfl, hf1⟩
  have HGR : Hid (Calls Try.prog 11 #[.slice A N c] w1 fun e w' => GreatPost xs e ∧ Fr NoBlk w1 w') := by
    have h := great_any w1 A c xs (HR.out.1.nofr hf1) (fun x hx => OpIn.nofr (HR.out.2.1 x hx) hf1) HR.out.2.2
    rw [← HNN.out] at h
    exact h
  have HGY : Hid (∀ w', Fr NoBlk w1 w' → Calls Try.prog 11 #[.slice B M d] w' fun e w2 => GreatPost ys e ∧ Fr NoBlk w' w2) := fun w' hf => by
    have h := great_any w' B d ys (HRY.out.1.nofr (hf1.trans hf)) (fun x hx => OpIn.nofr (HRY.out.2.1 x hx) (hf1.trans hf)) HRY.out.2.2
    rw [← HMM.out] at h
    exact h
  have HF1 := Lib.hid hf1
  clear hf1
  go_wp2_with fail
  refine HGR.out.mono ?_
  clear HGR
  rintro e w2 ⟨⟨b, rfl, hsm⟩, hf2⟩
  have HSM := Lib.hid hsm
  have HF2 : Hid (Fr NoBlk w1 w2) := hf2
  clear hsm hf2
  cases b with
  | true =>
    have HFZ : Hid (Fr NoBlk W w2) := HF1.out.trans HF2.out
    go_wp2_with fail
    go_ret
    exact ⟨rfl, HFZ.out⟩
  | false =>
  have HSML := Lib.hid (HSM.out rfl)
  clear HSM
  go_wp2_with fail
  refine (HGY.out _ HF2.out).mono ?_
  clear HGY
  rintro e w3 ⟨⟨b, rfl, hsm⟩, hf3⟩
  have HSM := Lib.hid hsm
  have HF3 : Hid (Fr NoBlk W w3) := HF1.out.trans (HF2.out.trans hf3)
  clear hsm hf3
  cases b with
  | true =>
    go_wp2_with fail
    go_ret
    exact ⟨rfl, HF3.out⟩
  | false =>
  have HSMY := Lib.hid (HSM.out rfl)
  clear HSM HF1 HF2
  go_wp2_with fail
  refine (@snew_any ⟨none⟩ w3 (fun k e => by cases e) 3).mono ?_
  rintro e w4 (⟨_, _, ga, OA, rfl, hsa, hOA, hf4⟩ | ⟨h, _⟩)
  rotate_left
  · exact absurd ⟨by decide, by decide⟩ h
  have HSA : Hid (@Store ⟨none⟩ w4 ga OA 3 []) := hsa
  have HF4 : Hid (Fr NoBlk W w4 ∧ ∀ b, OA b → W.heap.size ≤ b) := ⟨HF3.out.trans hf4, fun b hb => Nat.le_trans HF3.out.size (hOA b hb)⟩
  clear hsa hOA hf4
  go_wp2_with fail
  refine (@snew_any ⟨none⟩ w4 (fun k e => by cases e) 3).mono ?_
  rintro e w5 (⟨_, _, gb, OB, rfl, hsb, hOB, hf5⟩ | ⟨h, _⟩)
  rotate_left
  · exact absurd ⟨by decide, by decide⟩ h
  have HSB : Hid (@Store ⟨none⟩ w5 gb OB 3 []) := hsb
  have HF5 : Hid (Fr NoBlk w4 w5 ∧ ∀ b, OB b → w4.heap.size ≤ b) := ⟨hf5, hOB⟩
  clear hsb hOB hf5
  go_wp2_with fail
  refine (@rnew_any ⟨none⟩ w5 (fun k e => by cases e) 3 (by decide)).mono ?_
  rintro e w6 ⟨gm, OM, rfl, hrs, hf6⟩
  have HTR : Hid (Trio W w6 ga gm gb 3 [] [] []) := by
    have h1 : ∀ b, OA b → b < w4.heap.size := fun b hb => @Store.lt ⟨none⟩ _ _ _ _ _ HSA.out b hb
    have h2 : ∀ b, OB b → b < w5.heap.size := fun b hb => @Store.lt ⟨none⟩ _ _ _ _ _ HSB.out b hb
    have h3 : ∀ b, OM b → w5.heap.size ≤ b := fun b hb => by
      obtain ⟨E, hE⟩ : ∃ E : Ex, RSt w6 w5.heap.size gm OM 3 [] := ⟨⟨none⟩, hrs⟩
      exact (hE.lt hb).1
    have h4 := HF5.out.1.size
    have h5 := HF4.out.1.size
    refine ⟨OA, OM, none, OB, @PairS.mk ⟨none⟩ _ _ _ _ _ _ _ _ _ (@Store.nofr ⟨none⟩ _ _ _ _ _ _ HSA.out (HF5.out.1.trans hf6)) (@RSt.low ⟨none⟩ _ _ _ _ _ _ _ hrs (by omega)) HF4.out.2 (fun b hb hm => by have := h1 b hb; have := h3 b hm; omega) (HF4.out.1.trans (HF5.out.1.trans hf6)), @Store.nofr ⟨none⟩ _ _ _ _ _ _ HSB.out hf6, fun b hb => ⟨fun e => by have := h1 b e; have := HF5.out.2 b hb; omega, fun e => by have := h2 b hb; have := h3 b e; omega⟩, fun b hb => by have := HF5.out.2 b hb; omega⟩
  clear hrs hf6 HSA HSB HF3 HF4 HF5
  go_wp2_with fail
  go_loopw [39] (fun z wr => ∃ k : Nat, z = .int .i64 (k : Int) ∧ k ≤ N ∧ Hid (∃ ra rm rb, Trio W wr ga gm gb 3 ra rm rb ∧ Lim k ra ∧ Lim k rm ∧ Homes 3 ra ∧ rb = [])) (fun z _ => N - (intOf z).toNat)
  case atStart => exact ⟨0, rfl, Nat.zero_le _, [], [], [], HTR.out, Lim.nil, Lim.nil, (fun z hz => by cases hz), rfl⟩
  case round =>
    obtain ⟨k, rfl, hk, HI⟩ := hrel
    have hNs : N ≤ 100 := by have h1 := HSML.out.n; have h2 := HNN.out; omega
    have hw2 : IntKind.i64.wrap ((k : Int) + 1) = ((k + 1 : Nat) : Int) := by rw [IntWalk.i64_in _ (by omega)]; omega
    by_cases hlt : k < N
    · obtain ⟨x, hx⟩ : ∃ x, xs[k]? = some x := ⟨_, List.getElem?_eq_getElem (by have := HNN.out; omega)⟩
      have hxs := HSML.out.o x (List.mem_of_getElem? hx)
      obtain ⟨ra, rm, rb, htr, hla, hlm, hrest⟩ := HI.out
      obtain ⟨b, o, hA, c0, c1, c2, c4⟩ := (HR.out.1.nofr htr.fr).opn hx
      have hin := HR.out.2.1 x (List.mem_of_getElem? hx)
      subst hA
      obtain ⟨wa, hwa⟩ : ∃ w, w = wr.alloc (.cells (opa x) 33) := ⟨_, rfl⟩
      have hfa : Fr NoBlk wr wa := by rw [hwa]; exact (Fr.refl _ _).alloc _
      have HDO : Hid (Calls Try.prog 14 #[.pointer (some ⟨ga, 0, none⟩), .pointer (some ⟨gm, 0, none⟩), .agg (opa x)] wa fun e w' => (∃ z, e = .returned z) ∧ (∃ ra rm rb, Trio W w' ga gm gb 3 ra rm rb ∧ Lim (k + 1) ra ∧ Lim (k + 1) rm ∧ Homes 3 ra ∧ rb = [])) := by
        refine (do_trio W wa _ gm _ _ k ra rm rb (htr.nofr hfa) hla hlm (by omega) x hin.1.1 hxs).mono ?_
        rintro e w' ⟨he, ht⟩
        exact ⟨he, _, _, _, ht, hla.step x hxs, hlm.step x hxs, hrest.1.step (by decide) x, hrest.2⟩
      have HBW : Hid (Bk wa wr.heap.size 33 (opa x)) := by show Bk _ _ _ _; rw [hwa]; exact Bk.new _ _ _
      have HWA := Lib.hid hwa
      clear hx hxs htr hla hlm hrest hin hwa hfa HI
      obtain ⟨kind, no, name, ⟨va, vc, vb⟩⟩ := x
      unfold opa at HWA HDO HBW
      unfold st at c2 HWA HDO HBW
      unfold sl at c4 HWA HDO HBW
      dsimp only at c0 c1 c2 c4 HWA HDO HBW
      obtain ⟨vl, hvl⟩ : ∃ vl, vl = vb.length := ⟨_, rfl⟩
      rw [← hvl] at c4 HWA HDO HBW
      clear hvl
      obtain ⟨pb, hpb⟩ : ∃ pb, pb = wr.heap.size := ⟨_, rfl⟩
      rw [← hpb] at HBW
      go_upto_region 13 with fail
      rw [← HWA.out, ← hpb]
      have b0 : wa.cell? ⟨pb, 0, none⟩ = some (.int .i64 kind) := HBW.out.cell 0
      have b1 : wa.cell? ⟨pb, 1, none⟩ = some (.int .i64 no) := HBW.out.cell 1
      have b2 : wa.cell? ⟨pb, 2, none⟩ = some (.string (bstr name)) := HBW.out.cell 2
      have b3 : wa.cell? ⟨pb, 3, none⟩ = some (.slice va vl vc) := HBW.out.cell 3
      clear HWA hpb c0 c1 c2 c4
      go_wp2_with fail
      refine HDO.out.mono ?_
      clear HDO
      rintro e w5 ⟨⟨z5, rfl⟩, h5⟩
      have HI5 := Lib.hid h5
      clear h5
      go_wp2_with fail
      go_roundw
      case rel => exact ⟨k + 1, by go_num, by omega, HI5⟩
      case measure => simp [intOf]; omega
    · obtain ⟨ra, rm, rb, htr, hla, hlm, hha, hrb⟩ := HI.out
      subst hrb
      have HTB : Hid (Trio W wr gb gm ga 3 [] rm ra ∧ Lim 100 ra ∧ Lim 100 rm ∧ Homes 3 ra) := ⟨htr.swap, hla.le (by omega), hlm.le (by omega), hha⟩
      clear htr hla hlm hha HI hw2
      go_wp2_with fail
      go_loopw [50] (fun z wr => ∃ k : Nat, z = .int .i64 (k : Int) ∧ k ≤ M ∧ Hid (∃ ra rm rb, Trio W wr gb gm ga 3 ra rm rb ∧ Lim (100 + k) ra ∧ Lim (100 + k) rm ∧ Homes 3 ra ∧ Homes 3 rb ∧ Lim 100 rb)) (fun z _ => M - (intOf z).toNat)
      case atStart => exact ⟨0, rfl, Nat.zero_le _, [], _, _, HTB.out.1, ⟨Nat.zero_le _, fun z hz => by cases hz⟩, HTB.out.2.2.1.le (Nat.le_add_right _ _), (fun z hz => by cases hz), HTB.out.2.2.2, HTB.out.2.1⟩
      case round =>
        obtain ⟨k, rfl, hk, HI⟩ := hrel
        have hNs : M ≤ 100 := by have h1 := HSMY.out.n; have h2 := HMM.out; omega
        have hw2 : IntKind.i64.wrap ((k : Int) + 1) = ((k + 1 : Nat) : Int) := by rw [IntWalk.i64_in _ (by omega)]; omega
        by_cases hlt : k < M
        · obtain ⟨x, hx⟩ : ∃ x, ys[k]? = some x := ⟨_, List.getElem?_eq_getElem (by have := HMM.out; omega)⟩
          have hxs := HSMY.out.o x (List.mem_of_getElem? hx)
          obtain ⟨ra, rm, rb, htr, hla, hlm, hrest⟩ := HI.out
          obtain ⟨b, o, hA, c0, c1, c2, c4⟩ := (HRY.out.1.nofr htr.fr).opn hx
          have hin := HRY.out.2.1 x (List.mem_of_getElem? hx)
          subst hA
          obtain ⟨wa, hwa⟩ : ∃ w, w = wr.alloc (.cells (opa x) 33) := ⟨_, rfl⟩
          have hfa : Fr NoBlk wr wa := by rw [hwa]; exact (Fr.refl _ _).alloc _
          have HDO : Hid (Calls Try.prog 14 #[.pointer (some ⟨gb, 0, none⟩), .pointer (some ⟨gm, 0, none⟩), .agg (opa x)] wa fun e w' => (∃ z, e = .returned z) ∧ (∃ ra rm rb, Trio W w' gb gm ga 3 ra rm rb ∧ Lim (100 + (k + 1)) ra ∧ Lim (100 + (k + 1)) rm ∧ Homes 3 ra ∧ Homes 3 rb ∧ Lim 100 rb)) := by
            refine (do_trio W wa _ gm _ _ (100 + k) ra rm rb (htr.nofr hfa) hla hlm (by omega) x hin.1.1 hxs).mono ?_
            rintro e w' ⟨he, ht⟩
            exact ⟨he, _, _, _, ht, hla.step x hxs, hlm.step x hxs, hrest.1.step (by decide) x, hrest.2.1, hrest.2.2⟩
          have HBW : Hid (Bk wa wr.heap.size 33 (opa x)) := by show Bk _ _ _ _; rw [hwa]; exact Bk.new _ _ _
          have HWA := Lib.hid hwa
          clear hx hxs htr hla hlm hrest hin hwa hfa HI
          obtain ⟨kind, no, name, ⟨va, vc, vb⟩⟩ := x
          unfold opa at HWA HDO HBW
          unfold st at c2 HWA HDO HBW
          unfold sl at c4 HWA HDO HBW
          dsimp only at c0 c1 c2 c4 HWA HDO HBW
          obtain ⟨vl, hvl⟩ : ∃ vl, vl = vb.length := ⟨_, rfl⟩
          rw [← hvl] at c4 HWA HDO HBW
          clear hvl
          obtain ⟨pb, hpb⟩ : ∃ pb, pb = wr.heap.size := ⟨_, rfl⟩
          rw [← hpb] at HBW
          go_upto_region 18 with fail
          rw [← HWA.out, ← hpb]
          have b0 : wa.cell? ⟨pb, 0, none⟩ = some (.int .i64 kind) := HBW.out.cell 0
          have b1 : wa.cell? ⟨pb, 1, none⟩ = some (.int .i64 no) := HBW.out.cell 1
          have b2 : wa.cell? ⟨pb, 2, none⟩ = some (.string (bstr name)) := HBW.out.cell 2
          have b3 : wa.cell? ⟨pb, 3, none⟩ = some (.slice va vl vc) := HBW.out.cell 3
          clear HWA hpb c0 c1 c2 c4
          go_wp2_with fail
          refine HDO.out.mono ?_
          clear HDO
          rintro e w5 ⟨⟨z5, rfl⟩, h5⟩
          have HI5 := Lib.hid h5
          clear h5
          go_wp2_with fail
          go_roundw
          case rel => exact ⟨k + 1, by go_num, by omega, HI5⟩
          case measure => simp [intOf]; omega
        · obtain ⟨ra, rm, rb, htr, hla, hlm, hha, hhb, hlb⟩ := HI.out
          obtain ⟨⟨OA, hsa⟩, OB, hsb⟩ := htr.both
          have hla' : Lim 200 ra := hla.le (by omega)
          have hva : ∀ x ∈ ra, x.1.length ≤ 500 ∧ x.2.val.length ≤ 500 := fun x hx => ⟨(hla.2 x hx).2.2, (hla.2 x hx).1⟩
          have hvb : ∀ x ∈ rb, x.1.length ≤ 500 ∧ x.2.val.length ≤ 500 := fun x hx => ⟨(hlb.2 x hx).2.2, (hlb.2 x hx).1⟩
          obtain ⟨la, hla2⟩ : ∃ l, l = snapB 3 ra := ⟨_, rfl⟩
          obtain ⟨lb, hlb2⟩ : ∃ l, l = snapB 3 rb := ⟨_, rfl⟩
          have HSA : Hid (∀ w', Fr NoBlk wr w' → Calls Try.prog 23 #[.pointer (some ⟨ga, 0, none⟩)] w' fun e w2 => ∃ v', e = .returned v' ∧ New w' w2 v' lb) := fun w' hf => by
            rw [hlb2]
            exact @ssnap_any ⟨none⟩ w' ga OB 3 rb (@Store.nofr ⟨none⟩ _ _ _ _ _ _ hsb hf) (by have := hlb.1; omega) hvb
          have HSB : Hid (∀ w', Fr NoBlk wr w' → Calls Try.prog 23 #[.pointer (some ⟨gb, 0, none⟩)] w' fun e w2 => ∃ v', e = .returned v' ∧ New w' w2 v' la) := fun w' hf => by
            rw [hla2]
            exact @ssnap_any ⟨none⟩ w' gb OA 3 ra (@Store.nofr ⟨none⟩ _ _ _ _ _ _ hsa hf) (by have := hla'.1; omega) hva
          obtain ⟨xb, hxb⟩ : ∃ b, b = sameRs rb ra := ⟨_, rfl⟩
          have hqq : ((bstr lb).toList == (bstr la).toList) = xb := by rw [str_beq, hlb2, hla2, hxb]; exact snapB_same (Nat.le_refl _) hhb hha
          have hxx : (xb == xb) = true := by simp
          obtain ⟨ma, hma⟩ : ∃ m, m = ra.length := ⟨_, rfl⟩
          obtain ⟨mb, hmb⟩ : ∃ m, m = rb.length := ⟨_, rfl⟩
          have HRA : Hid (∀ w', Fr NoBlk wr w' → Calls Try.prog 18 #[.pointer (some ⟨ga, 0, none⟩)] w' fun e w1 => ∃ A2 e2, e = .returned (.slice A2 mb e2) ∧ Fr NoBlk w' w1 ∧ ∀ w2, Fr NoBlk w1 w2 → Calls Try.prog 18 #[.pointer (some ⟨gb, 0, none⟩)] w2 fun e w3 => ∃ A3 e3, e = .returned (.slice A3 ma e3) ∧ Fr NoBlk w2 w3 ∧ ∀ w4, Fr NoBlk w3 w4 → Calls Try.prog 19 #[.slice A2 mb e2, .slice A3 ma e3] w4 fun e w5 => e = .returned (.bool xb) ∧ Fr NoBlk w4 w5) := fun w' hf => by
            refine (@srows_any ⟨none⟩ w' ga OB 3 rb (@Store.nofr ⟨none⟩ _ _ _ _ _ _ hsb hf) (by have := hlb.1; omega) hlb.val).mono ?_
            rintro e w1 ⟨A2, e2, ys, rfl, ho2, hrow2, hf1⟩
            refine ⟨A2, e2, by rw [hmb], hf1, fun w2 hf2 => ?_⟩
            refine (@srows_any ⟨none⟩ w2 gb OA 3 ra (@Store.nofr ⟨none⟩ _ _ _ _ _ _ hsa (hf.trans (hf1.trans hf2))) (by have := hla'.1; omega) hla.val).mono ?_
            rintro e w3 ⟨A3, e3, us, rfl, ho3, hrow3, hf3⟩
            refine ⟨A3, e3, by rw [hma], hf3, fun w4 hf4 => ?_⟩
            have hy : ys.length = mb := by rw [hmb, hrow2.1]
            have hu : us.length = ma := by rw [hma, hrow3.1]
            have h := @same_any ⟨none⟩ w4 A2 e2 ys A3 e3 us rb ra (Rd.nofr (Rd.of_ownW ho2) (hf2.trans (hf3.trans hf4))) (Rd.nofr (Rd.of_ownW ho3) hf4) (@Told.nofr ⟨none⟩ _ _ _ _ (@RowsOf.told ⟨none⟩ _ _ _ _ hrow2 fun k e => by cases e) (hf2.trans (hf3.trans hf4))) (@Told.nofr ⟨none⟩ _ _ _ _ (@RowsOf.told ⟨none⟩ _ _ _ _ hrow3 fun k e => by cases e) hf4) (by have := hlb.1; omega)
            rw [hy, hu, ← hxb] at h
            exact h
          have HFW := Lib.hid htr.fr
          have HSK : Hid (∀ w' : World, Fr NoBlk wr w' → True) := fun _ _ => trivial
          clear htr hla hlm hha hhb hlb hsa hsb hla' hva hvb hla2 hlb2 hxb hma hmb HI hw2
          go_wp2_with fail
          refine wp_region_held_drew (S := fun w' => Fr NoBlk wr w') (by kernel_rfl) ((Fr.refl _ _).drew) (fun hHeld => ?_)
          refine wpAnyH_take (i := 0) (oi := ⟨some 59, _, _, _, _, _⟩) (v := ?_) rfl (by kernel_rfl) (by kernel_rfl) (by kernel_rfl) (fun _ _ _ h => h) (Or.inl ⟨by rfl, ?_⟩) (by assumption) ?_
          rotate_left 1
          · (intro w hSw; (try dsimp only at hSw); have y0 := HSK.out _ hSw; go_simp) <;> (with_reducible rfl)
          try simp only [Act.put, List.setIfInBounds_toArray, List.set_cons_zero, List.set_cons_succ]
          refine wpAnyH_take (i := 3) (oi := ⟨some 62, _, _, _, _, _⟩) (v := ?_) rfl (by kernel_rfl) (by kernel_rfl) (by kernel_rfl) (fun _ _ _ h => h) (Or.inl ⟨by rfl, ?_⟩) (by assumption) ?_
          rotate_left 1
          · (intro w hSw; (try dsimp only at hSw); have y0 := HSK.out _ hSw; go_simp) <;> (with_reducible rfl)
          try simp only [Act.put, List.setIfInBounds_toArray, List.set_cons_zero, List.set_cons_succ]
          refine wpAnyH_take (i := 7) (oi := ⟨some 66, _, _, _, _, _⟩) (v := ?_) rfl (by kernel_rfl) (by kernel_rfl) (by kernel_rfl) (fun _ _ _ h => h) (Or.inl ⟨by rfl, ?_⟩) (by assumption) ?_
          rotate_left 1
          · (intro w hSw; (try dsimp only at hSw); have y0 := HSK.out _ hSw; go_simp) <;> (with_reducible rfl)
          try simp only [Act.put, List.setIfInBounds_toArray, List.set_cons_zero, List.set_cons_succ]
          refine wpAnyH_take (i := 9) (oi := ⟨some 68, _, _, _, _, _⟩) (v := ?_) rfl (by kernel_rfl) (by kernel_rfl) (by kernel_rfl) (fun _ _ _ h => h) (Or.inl ⟨by rfl, ?_⟩) (by assumption) ?_
          rotate_left 1
          · (intro w hSw; (try dsimp only at hSw); have y0 := HSK.out _ hSw; go_simp) <;> (with_reducible rfl)
          try simp only [Act.put, List.setIfInBounds_toArray, List.set_cons_zero, List.set_cons_succ]
          refine wpAnyH_ready (rs := [1]) (by kernel_rfl) (by simp) ?_
          refine AllReadyH.cons (o := ⟨some 60, _, _, _, _, _⟩) rfl (fun K hK => ?_) AllReadyH.nil
          go_simp
          go_at_call 23
          refine (HSA.out _ ((Fr.refl NoBlk wr).drew)).mono ?_
          rintro e w13 ⟨v1, rfl, hn1⟩
          obtain ⟨A1, c1, rfl, _, _⟩ := own_form hn1.own
          obtain ⟨m1, hm1⟩ : ∃ m, m = lb.length := ⟨_, rfl⟩
          have HF1 : Hid (Fr NoBlk wr w13) := Fr.trans (((Fr.refl NoBlk wr).drew)) hn1.fr
          have HR1 : Hid (Rd w13 A1 (cb lb) ∧ m1 = lb.length) := ⟨Rd.of_own hn1.own, hm1⟩
          rw [← hm1]
          clear hn1 hm1
          have HQ1 : Hid (∀ w', Fr NoBlk w13 w' → (convert 31 9 (.slice A1 m1 c1)).run Try.prog w' = .ok (.string (bstr lb)) w') := fun w' hf => strBs w' A1 m1 c1 lb HR1.out.2 (HR1.out.1.nofr hf)
          refine hK.out _ _ ?_ (fun hHeld => ?_)
          · exact HF1.out
          clear hK K
          try simp only [Act.put, List.setIfInBounds_toArray, List.set_cons_zero, List.set_cons_succ]
          refine wpAnyH_more (S' := fun w' => Fr NoBlk w13 w') (fun _ h => HF1.out.trans h) _ _ _ _ ?_
          clear hHeld
          have hHeld : (fun w' => Fr NoBlk w13 w') w13 := Fr.refl _ _
          refine wpAnyH_take (i := 2) (oi := ⟨some 61, _, _, _, _, _⟩) (v := ?_) rfl (by kernel_rfl) (by kernel_rfl) (by kernel_rfl) (fun _ _ _ h => h) (Or.inl ⟨by rfl, ?_⟩) (by assumption) ?_
          rotate_left 1
          · (intro w hSw; (try dsimp only at hSw); have y0 := HQ1.out _ hSw; go_simp) <;> (with_reducible rfl)
          try simp only [Act.put, List.setIfInBounds_toArray, List.set_cons_zero, List.set_cons_succ]
          refine wpAnyH_ready (rs := [4]) (by kernel_rfl) (by simp) ?_
          refine AllReadyH.cons (o := ⟨some 63, _, _, _, _, _⟩) rfl (fun K hK => ?_) AllReadyH.nil
          go_simp
          go_at_call 23
          refine (HSB.out _ (HF1.out)).mono ?_
          rintro e w14 ⟨v2, rfl, hn2⟩
          obtain ⟨A2, c2, rfl, _, _⟩ := own_form hn2.own
          obtain ⟨m2, hm2⟩ : ∃ m, m = la.length := ⟨_, rfl⟩
          have HF2 : Hid (Fr NoBlk wr w14) := Fr.trans ((HF1.out)) hn2.fr
          have HR2 : Hid (Rd w14 A2 (cb la) ∧ m2 = la.length) := ⟨Rd.of_own hn2.own, hm2⟩
          rw [← hm2]
          have HG2 : Hid (Fr NoBlk w13 w14) := hn2.fr
          clear hn2 hm2
          have HQ2 : Hid (∀ w', Fr NoBlk w14 w' → (convert 31 9 (.slice A2 m2 c2)).run Try.prog w' = .ok (.string (bstr la)) w') := fun w' hf => strBs w' A2 m2 c2 la HR2.out.2 (HR2.out.1.nofr hf)
          refine hK.out _ _ ?_ (fun hHeld => ?_)
          · exact HG2.out
          clear hK K
          try simp only [Act.put, List.setIfInBounds_toArray, List.set_cons_zero, List.set_cons_succ]
          refine wpAnyH_more (S' := fun w' => Fr NoBlk w14 w') (fun _ h => HG2.out.trans h) _ _ _ _ ?_
          clear hHeld
          have hHeld : (fun w' => Fr NoBlk w14 w') w14 := Fr.refl _ _
          refine wpAnyH_take (i := 5) (oi := ⟨some 64, _, _, _, _, _⟩) (v := ?_) rfl (by kernel_rfl) (by kernel_rfl) (by kernel_rfl) (fun _ _ _ h => h) (Or.inl ⟨by rfl, ?_⟩) (by assumption) ?_
          rotate_left 1
          · (intro w hSw; (try dsimp only at hSw); have y0 := HQ2.out _ hSw; go_simp) <;> (with_reducible rfl)
          try simp only [Act.put, List.setIfInBounds_toArray, List.set_cons_zero, List.set_cons_succ]
          refine wpAnyH_take (i := 6) (oi := ⟨some 65, _, _, _, _, _⟩) (v := ?_) rfl (by kernel_rfl) (by kernel_rfl) (by kernel_rfl) (fun _ _ _ h => h) (Or.inl ⟨by rfl, ?_⟩) (by assumption) ?_
          rotate_left 1
          · (intro w hSw; (try dsimp only at hSw); have y0 := HQ2.out _ hSw; go_simp) <;> (with_reducible rfl)
          try simp only [Act.put, List.setIfInBounds_toArray, List.set_cons_zero, List.set_cons_succ]
          refine wpAnyH_ready (rs := [8]) (by kernel_rfl) (by simp) ?_
          refine AllReadyH.cons (o := ⟨some 67, _, _, _, _, _⟩) rfl (fun K hK => ?_) AllReadyH.nil
          go_simp
          go_at_call 18
          refine (HRA.out _ HF2.out).mono ?_
          rintro e w15 ⟨A3, e3, rfl, hf15, hnx⟩
          have HG5 : Hid (Fr NoBlk w14 w15) := hf15
          have HNX := Lib.hid hnx
          clear hf15 hnx
          refine hK.out _ _ ?_ (fun hHeld => ?_)
          · exact HG5.out
          clear hK K
          try simp only [Act.put, List.setIfInBounds_toArray, List.set_cons_zero, List.set_cons_succ]
          refine wpAnyH_ready (rs := [10]) (by kernel_rfl) (by simp) ?_
          refine AllReadyH.cons (o := ⟨some 69, _, _, _, _, _⟩) rfl (fun K hK => ?_) AllReadyH.nil
          go_simp
          go_at_call 18
          refine (HNX.out _ (Fr.refl _ _)).mono ?_
          rintro e w16 ⟨A4, e4, rfl, hf16, hnx⟩
          have HG6 : Hid (Fr NoBlk w14 w16) := HG5.out.trans hf16
          have HNY := Lib.hid hnx
          clear hf16 hnx
          refine hK.out _ _ ?_ (fun hHeld => ?_)
          · exact HG6.out
          clear hK K
          try simp only [Act.put, List.setIfInBounds_toArray, List.set_cons_zero, List.set_cons_succ]
          refine wpAnyH_ready (rs := [11]) (by kernel_rfl) (by simp) ?_
          refine AllReadyH.cons (o := ⟨some 70, _, _, _, _, _⟩) rfl (fun K hK => ?_) AllReadyH.nil
          go_simp
          go_at_call 19
          refine (HNY.out _ (Fr.refl _ _)).mono ?_
          rintro e w17 ⟨rfl, hf17⟩
          have HG7 : Hid (Fr NoBlk w14 w17) := HG6.out.trans hf17
          clear hf17
          refine hK.out _ _ ?_ (fun hHeld => ?_)
          · exact HG7.out
          clear hK K
          try simp only [Act.put, List.setIfInBounds_toArray, List.set_cons_zero, List.set_cons_succ]
          refine wpAnyH_take (i := 12) (oi := ⟨some 71, _, _, _, _, _⟩) (v := ?_) rfl (by kernel_rfl) (by kernel_rfl) (by kernel_rfl) (fun _ _ _ h => h) (Or.inl ⟨by rfl, ?_⟩) (by assumption) ?_
          rotate_left 1
          · (intro w hSw; (try dsimp only at hSw); have y0 := HQ2.out _ hSw; go_simp) <;> (with_reducible rfl)
          try simp only [Act.put, List.setIfInBounds_toArray, List.set_cons_zero, List.set_cons_succ]
          refine wpAnyH_take (i := 13) (oi := ⟨some 4, _, _, _, _, _⟩) (v := ?_) rfl (by kernel_rfl) (by kernel_rfl) (by kernel_rfl) (fun _ _ _ h => h) (Or.inl ⟨by rfl, ?_⟩) (by assumption) ?_
          rotate_left 1
          · (intro w hSw; (try dsimp only at hSw); have y0 := HQ2.out _ hSw; go_simp) <;> (with_reducible rfl)
          try simp only [Act.put, List.setIfInBounds_toArray, List.set_cons_zero, List.set_cons_succ]
          refine wpAnyH_done (by kernel_rfl) ?_ _
          have HFZ : Hid (Fr NoBlk W w17) := HFW.out.trans (HF2.out.trans HG7.out)
          go_wp2_with fail
          go_ret
          exact ⟨rfl, HFZ.out⟩

theorem paramsOk : ∀ t ∈ Try.f9.params.toList, Try.prog.readableRec t = true ∧ t < Try.prog.types.size := fun t ht => by
  have h := List.all_eq_true.1 (show (Try.f9.params.toList.all fun t => Try.prog.readableRec t && decide (t < Try.prog.types.size)) = true by kernel_rfl) t ht
  simpa using h

set_option maxRecDepth 100000 in
theorem lifted (os : Os) (started : os.Started) (H : Type) (enc : TypeId × Value → H) :
    ReturnsInHanded {} Try.checked os 9 .any (Rows.storeUnlikeSpec.pre6 enc Try.prog Try.f9 Rows.storeUnlikeRow.domain false) (Rows.storeUnlikeSpec.post enc Try.prog Try.f9 false true false false) := by
  refine returnsInHanded_of_change (C := Try.checked) own started (by kernel_rfl) Try.func9
    (ChangeSpec.witness6 (enc := enc) (C := Try.checked) false ⟨#[], #[.slice none 0 0, .slice none 0 0], []⟩ 8 (by kernel_rfl) (by kernel_rfl) (by kernel_rfl) (by kernel_rfl)) ?_
  intro W base args ds gs before hval0 hW _ _
  have hval : ∀ (j : Nat) t v, Try.f9.params[j]? = some t → args[j]? = some v → Value.okWide Try.prog W .any base t v := hval0
  have hW' := hW
  obtain ⟨p, q, hA0, hV, rfl, _, _⟩ := hW
  have hA : DataW.TrodAll enc Try.prog W 0 (fun _ => true) true Try.f9.params.toList args.toList ds p := hA0
  rw [Try.params9] at hA hval
  obtain ⟨v0, vs0, d0, ds0, p0, q0, hargs, rfl, rfl, h0, r0⟩ := trodAll_cons hA
  obtain ⟨v1, vs1, d1, ds1, p1, q1, rfl, rfl, rfl, h1, r1⟩ := trodAll_cons r0
  obtain ⟨rfl, rfl, rfl⟩ := trodAll_nil r1
  obtain rfl : args = #[v0, v1] := by cases args; simp_all
  obtain ⟨rfl, rfl⟩ := trodVars_none hV
  obtain ⟨A, c, l, rfl, hr, hx, hn, hm⟩ := open_ops (hval 0 _ v0 rfl rfl) h0
  obtain ⟨B, e, l2, rfl, hr2, hx2, hn2, hm2⟩ := open_ops (hval 1 _ v1 rfl rfl) h1
  have walk := walk W A c l hr hx (Nat.le_trans hn hm) B e l2 hr2 hx2 (Nat.le_trans hn2 hm2)
  clear hA0 hval0
  refine walk.mono fun e W' ⟨he, hf⟩ => ?_
  subst he
  exact ⟨_, rfl, law_post laidOut paramsOk rfl rfl Try.underlying4 hW' rfl rfl rfl hf⟩

theorem said : Rows.StoreUnlikeSaid :=
  OpenClaim.holds_of_wide 9 Try.f9 rfl rfl rfl rfl rfl rfl rfl ⟨rfl, rfl, rfl, rfl, rfl⟩ rfl rfl rfl rfl rfl (by kernel_rfl) Try.func9 (by kernel_rfl)
    (of_decide_eq_true (by kernel_rfl)) (by unfold Func.isWrapper; first | (rw [if_pos (by decide +kernel)]; kernel_rfl) | (rw [if_neg (by decide +kernel)]; exact ⟨rfl, rfl⟩))
    (fun os started H enc _ => lifted os started H enc)
end Go.Proofs.Ytkdcacajacndmaa.storeUnlike
