/- StorePlays is true: every call of any script on a store answers exactly as the document says, and leaves the document's rows. No condition. -/
import Derived.Test.YtkdcacajacndmaaSpk6
import Derived.Test.YtkdcacajacndmaaDo6
import Derived.Test.YtkdcacajacndmaaRfA
import Derived.ChangeMaps5
import Derived.Lib.Hide
import Derived.Test.YtkdcacajacndmaaSmDo
import Derived.Test.YtkdcacajacndmaaSnAll
import Derived.Deep.RegionHeld3
namespace Go.Proofs.Ytkdcacajacndmaa.storePlays
open Go.ChangeShapes Go.WideShapes Go.ChangeAt Go.RowKit
theorem OpIn.nofr {W W' : World} {x : Opn} (h : OpIn W x) (hf : Fr NoBlk W W') : OpIn W' x := ⟨⟨⟨h.1.1.1.nofr hf, h.1.1.2⟩, h.1.2⟩, h.2⟩
theorem wpAnyH_more {P : Program} {md : Region.Mode} {ops : Array Oper} {Q : Exit → Act → World → Prop} {S S' : World → Prop} (hS : ∀ w, S' w → S w) :
    ∀ (fuel : Nat) (listed : Array Bool) (a : Act) (w : World), wpAnyH P md ops Q S' fuel listed a w → wpAnyH P md ops Q S fuel listed a w
  | 0, _, _, _, h => h
  | fuel + 1, _, _, _, h => ⟨h.1, fun i hi => wpOp_mono (fun a' w' h' => ⟨hS w' h'.1, wpAnyH_more hS fuel _ a' w' h'.2⟩) (h.2 i hi)⟩
set_option maxRecDepth 100000 in
set_option maxHeartbeats 4000000 in
theorem walk (W : World) (reg : Int) (A : Option Addr) (c : Nat) (xs : List Opn) (hr : Rd W A (opsc xs)) (hx : ∀ x ∈ xs, OpIn W x) (hm : xs.length ≤ maxLen) :
    Calls Try.prog 3 #[.int .i64 reg, .slice A xs.length c] W fun e W' => e = .returned (.bool true) ∧ Fr NoBlk W W' := by
  have HS := Lib.hid (@speaks_any ⟨none⟩ W fun k e => by cases e)
  have HR := Lib.hid (And.intro hr (And.intro hx hm))
  obtain ⟨N, hN⟩ : ∃ N, N = xs.length := ⟨_, rfl⟩
  have HNN := Lib.hid hN
  rw [← hN]
  clear hr hx hm hN
  go_enter Try.func3, Try.ntmps3
  go_wp2_with fail
  refine HS.out.mono ?_
  clear HS
  rintro e w1 ⟨rfl, hf1⟩
  have HGR : Hid (Calls Try.prog 11 #[.slice A N c] w1 fun e w' => GreatPost xs e ∧ Fr NoBlk w1 w') := by
    have h := great_any w1 A c xs (HR.out.1.nofr hf1) (fun x hx => OpIn.nofr (HR.out.2.1 x hx) hf1) HR.out.2.2
    rw [← HNN.out] at h
    exact h
  have HF1 := Lib.hid hf1
  clear hf1
  go_wp2_with fail
  refine HGR.out.mono ?_
  clear HGR
  rintro e w2 ⟨⟨b, rfl, hsm⟩, hf2⟩
  have HSM := Lib.hid hsm
  have HF2 : Hid (Fr NoBlk W w2) := HF1.out.trans hf2
  clear hsm hf2
  cases b with
  | true =>
    go_wp2_with fail
    go_ret
    exact ⟨rfl, HF2.out⟩
  | false =>
  have HSML := Lib.hid (HSM.out rfl)
  go_wp2_with fail
  refine (@snew_any ⟨none⟩ w2 (fun k e => by cases e) reg).mono ?_
  rintro e w3 (⟨h1, h3, g, O, rfl, hs, hO, hf3⟩ | ⟨h, rfl, rfl⟩)
  rotate_left
  · by_cases hlow : reg < 1
    · have HFZ := HF2
      go_wp2_with fail
      go_ret
      exact ⟨rfl, HFZ.out⟩
    · have hhi : 3 < reg := by omega
      have hlo1 : 1 ≤ reg := by omega
      go_wp2_with fail
      go_ret
      exact ⟨rfl, HF2.out⟩
  obtain ⟨n, hn⟩ : ∃ n : Nat, reg = (n : Int) := ⟨reg.toNat, by omega⟩
  subst hn
  rw [Int.toNat_natCast] at hs
  have HN3 : Hid (1 ≤ n ∧ n ≤ 3) := ⟨by omega, by omega⟩
  have h3' : ¬ 3 < (n : Int) := by omega
  have h1' : ¬ (n : Int) < 1 := by omega
  have HS3 : Hid (@Store ⟨none⟩ w3 g O n []) := hs
  have HO3 := Lib.hid hO
  have HF3 := Lib.hid hf3
  clear hs hO hf3
  go_wp2_with fail
  refine (@rnew_any ⟨none⟩ w3 (fun k e => by cases e) n HN3.out).mono ?_
  rintro e w4 ⟨gm, OM, rfl, hrs, hf4⟩
  have HP4 : Hid (Pair W w4 g gm n []) := @pair_new ⟨none⟩ _ _ _ _ _ _ _ _ HS3.out (fun b hb => Nat.le_trans HF2.out.size (HO3.out b hb)) (HF2.out.trans HF3.out) hrs hf4
  clear hrs hf4 HS3 HO3 HF3 h1 h3 h1' h3'
  go_wp2_with fail
  go_loopw [48] (fun z wr => ∃ k : Nat, z = .int .i64 (k : Int) ∧ k ≤ N ∧ Hid (∃ rs, Pair W wr g gm n rs ∧ Lim k rs)) (fun z _ => N - (intOf z).toNat)
  case atStart => exact ⟨0, rfl, Nat.zero_le _, [], HP4.out, Lim.nil⟩
  case round =>
    obtain ⟨k, rfl, hk, HI⟩ := hrel
    clear HP4
    have hNs : N ≤ 100 := by have h1 := HSML.out.n; have h2 := HNN.out; omega
    have hw2 : IntKind.i64.wrap ((k : Int) + 1) = ((k + 1 : Nat) : Int) := by rw [IntWalk.i64_in _ (by omega)]; omega
    by_cases hlt : k < N
    · obtain ⟨x, hx⟩ : ∃ x, xs[k]? = some x := ⟨_, List.getElem?_eq_getElem (by have := HNN.out; omega)⟩
      have hxs := HSML.out.o x (List.mem_of_getElem? hx)
      obtain ⟨rs, hpr, hlm⟩ := HI.out
      have hfW : Fr NoBlk W wr := by obtain ⟨_, _, o, h⟩ := hpr; exact @PairS.fr ⟨o⟩ _ _ _ _ _ _ _ _ _ h
      obtain ⟨b, o, hA, c0, c1, c2, c4⟩ := (HR.out.1.nofr hfW).opn hx
      have hin := HR.out.2.1 x (List.mem_of_getElem? hx)
      subst hA
      obtain ⟨wa, hwa⟩ : ∃ w, w = wr.alloc (.cells (opa x) 33) := ⟨_, rfl⟩
      have hfa : Fr NoBlk wr wa := by rw [hwa]; exact (Fr.refl _ _).alloc _
      obtain ⟨rs7, hrs7⟩ : ∃ r, r = dstep n rs x := ⟨_, rfl⟩
      have HDO : Hid (∀ w', Fr NoBlk wr w' → Calls Try.prog 14 #[.pointer (some ⟨g, 0, none⟩), .pointer (some ⟨gm, 0, none⟩), .agg (opa x)] w' fun e w'' => e = .returned (.bool true) ∧ Pair W w'' g gm n rs7 ∧ Lim (k + 1) rs7 ∧ ∀ p T cs, wr.heap.size ≤ p → Bk w' p T cs → Bk w'' p T cs) := fun w' hf => by
        rw [hrs7]
        exact do_keep W wr w' g gm n k rs hpr hf hlm (by omega) x hin.1.1 hxs
      have hno : x.n < 9223372036854775808 := by
        have h := hin.2.2.1
        simp only [Lit.wf, Bool.and_eq_true, decide_eq_true_eq, show IntKind.max .i64 = 9223372036854775807 from by decide] at h
        omega
      have HBW : Hid (Bk wa wr.heap.size 33 (opa x)) := by show Bk _ _ _ _; rw [hwa]; exact Bk.new _ _ _
      have HWA := Lib.hid hwa
      have HFA := Lib.hid hfa
      clear hx hpr hlm hfW hin hwa hfa HI hrs7
      obtain ⟨kind, no, name, ⟨va, vc, vb⟩⟩ := x
      unfold opa at HWA HDO HBW
      unfold st at c2 HWA HDO HBW
      unfold sl at c4 HWA HDO HBW
      dsimp only at c0 c1 c2 c4 HWA HDO HBW hno hxs
      have HNO : Hid (no < 9223372036854775808) := hno
      have HKN : Hid (name.length ≤ 500) := hxs.2
      have HKB : Hid (k < N ∧ N ≤ 100) := ⟨hlt, hNs⟩
      obtain ⟨hm, hhm⟩ : ∃ h, h = homeOf name no := ⟨_, rfl⟩
      have HHM := Lib.hid hhm
      have hne : (hm != hm) = false := by simp
      obtain ⟨vl, hvl⟩ : ∃ vl, vl = vb.length := ⟨_, rfl⟩
      rw [← hvl] at c4 HWA HDO HBW
      clear hvl hno hxs hhm
      obtain ⟨pb, hpb⟩ : ∃ pb, pb = wr.heap.size := ⟨_, rfl⟩
      rw [← hpb] at HBW
      have HPB : Hid (wr.heap.size ≤ pb) := Nat.le_of_eq hpb.symm
      have HSO : Hid (∀ w', Bk w' pb 33 #[.int .i64 kind, .int .i64 no, .string (bstr name), .slice va vl vc] → w'.cell? ⟨pb, 0, none⟩ = some (.int .i64 kind) ∧ w'.cell? ⟨pb, 1, none⟩ = some (.int .i64 no) ∧ w'.cell? ⟨pb, 2, none⟩ = some (.string (bstr name)) ∧ w'.cell? ⟨pb, 3, none⟩ = some (.slice va vl vc)) := fun w' h => ⟨h.cell 0, h.cell 1, h.cell 2, h.cell 3⟩
      go_upto_region 12 with fail
      rw [← HWA.out, ← hpb]
      clear HWA hpb c0 c1 c2 c4
      refine wp_region_held_drew (S := fun w' => Bk w' pb 33 #[.int .i64 kind, .int .i64 no, .string (bstr name), .slice va vl vc]) (by kernel_rfl) (HBW.out.fr (Fr.refl NoBlk _).drew fun e => e) (fun hHeld => ?_)
      obtain ⟨w6, hw6⟩ : ∃ w6, w6 = wa.drew := ⟨_, rfl⟩
      have HF6 : Hid (Fr NoBlk wr w6) := by show Fr _ _ _; rw [hw6]; exact HFA.out.drew
      rw [← hw6] at hHeld ⊢
      clear hw6
      refine wpAnyH_take (i := 0) (oi := ⟨some 52, _, _, _, _, _⟩) (v := ?_) rfl (by kernel_rfl) (by kernel_rfl) (by kernel_rfl) (fun _ _ _ h => h) (Or.inl ⟨by rfl, ?_⟩) (by assumption) ?_
      rotate_left 1
      · (intro w hSw; (try dsimp only at hSw); obtain ⟨y0, y1, y2, y3⟩ := HSO.out _ hSw; go_simp) <;> (with_reducible rfl)
      try simp only [Act.put, List.setIfInBounds_toArray, List.set_cons_zero, List.set_cons_succ]
      refine wpAnyH_take (i := 1) (oi := ⟨some 53, _, _, _, _, _⟩) (v := ?_) rfl (by kernel_rfl) (by kernel_rfl) (by kernel_rfl) (fun _ _ _ h => h) (Or.inl ⟨by rfl, ?_⟩) (by assumption) ?_
      rotate_left 1
      · (intro w hSw; (try dsimp only at hSw); obtain ⟨y0, y1, y2, y3⟩ := HSO.out _ hSw; go_simp) <;> (with_reducible rfl)
      try simp only [Act.put, List.setIfInBounds_toArray, List.set_cons_zero, List.set_cons_succ]
      refine wpAnyH_take (i := 2) (oi := ⟨some 54, _, _, _, _, _⟩) (v := ?_) rfl (by kernel_rfl) (by kernel_rfl) (by kernel_rfl) (fun _ _ _ h => h) (Or.inl ⟨by rfl, ?_⟩) (by assumption) ?_
      rotate_left 1
      · (intro w hSw; (try dsimp only at hSw); obtain ⟨y0, y1, y2, y3⟩ := HSO.out _ hSw; go_simp) <;> (with_reducible rfl)
      try simp only [Act.put, List.setIfInBounds_toArray, List.set_cons_zero, List.set_cons_succ]
      refine wpAnyH_ready (rs := [3]) (by kernel_rfl) (by simp) ?_
      refine AllReadyH.cons (o := ⟨some 55, _, _, _, _, _⟩) rfl (fun K hK => ?_) AllReadyH.nil
      have hSw := hHeld
      go_simp
      go_at_call 14
      refine (HDO.out _ HF6.out).mono ?_
      clear HDO
      rintro e w7 ⟨rfl, ⟨O7, OM7, o7, hpr7⟩, hl7, hk7⟩
      have hB7 := hk7 pb _ _ HPB.out hSw
      obtain ⟨E7, hps7⟩ : ∃ E : Ex, PairS W w7 g gm n rs7 rs7 O7 OM7 := ⟨⟨o7⟩, hpr7⟩
      have HP7 := Lib.hid hps7
      have HL7 : Hid (Lim (k + 1) rs7 ∧ rs7.length ≤ 101) := ⟨hl7, by have h1 := hl7.1; have h2 := HKB.out; omega⟩
      clear hk7 hpr7 hl7 hps7
      refine hK.out _ _ ?_ (fun hHeld => ?_)
      · exact hB7
      clear hK K
      try simp only [Act.put, List.setIfInBounds_toArray, List.set_cons_zero, List.set_cons_succ]
      refine wpAnyH_take (i := 4) (oi := ⟨some 56, _, _, _, _, _⟩) (v := ?_) rfl (by kernel_rfl) (by kernel_rfl) (by kernel_rfl) (fun _ _ _ h => h) (Or.inl ⟨by rfl, ?_⟩) (by assumption) ?_
      rotate_left 1
      · (intro w hSw; (try dsimp only at hSw); obtain ⟨y0, y1, y2, y3⟩ := HSO.out _ hSw; go_simp) <;> (with_reducible rfl)
      try simp only [Act.put, List.setIfInBounds_toArray, List.set_cons_zero, List.set_cons_succ]
      refine wpAnyH_take (i := 5) (oi := ⟨some 57, _, _, _, _, _⟩) (v := ?_) rfl (by kernel_rfl) (by kernel_rfl) (by kernel_rfl) (fun _ _ _ h => h) (Or.inl ⟨by rfl, ?_⟩) (by assumption) ?_
      rotate_left 1
      · (intro w hSw; (try dsimp only at hSw); obtain ⟨y0, y1, y2, y3⟩ := HSO.out _ hSw; go_simp) <;> (with_reducible rfl)
      try simp only [Act.put, List.setIfInBounds_toArray, List.set_cons_zero, List.set_cons_succ]
      refine wpAnyH_take (i := 6) (oi := ⟨some 58, _, _, _, _, _⟩) (v := ?_) rfl (by kernel_rfl) (by kernel_rfl) (by kernel_rfl) (fun _ _ _ h => h) (Or.inl ⟨by rfl, ?_⟩) (by assumption) ?_
      rotate_left 1
      · (intro w hSw; (try dsimp only at hSw); obtain ⟨y0, y1, y2, y3⟩ := HSO.out _ hSw; go_simp) <;> (with_reducible rfl)
      try simp only [Act.put, List.setIfInBounds_toArray, List.set_cons_zero, List.set_cons_succ]
      refine wpAnyH_take (i := 7) (oi := ⟨some 59, _, _, _, _, _⟩) (v := ?_) rfl (by kernel_rfl) (by kernel_rfl) (by kernel_rfl) (fun _ _ _ h => h) (Or.inl ⟨by rfl, ?_⟩) (by assumption) ?_
      rotate_left 1
      · (intro w hSw; (try dsimp only at hSw); obtain ⟨y0, y1, y2, y3⟩ := HSO.out _ hSw; go_simp) <;> (with_reducible rfl)
      try simp only [Act.put, List.setIfInBounds_toArray, List.set_cons_zero, List.set_cons_succ]
      refine wpAnyH_take (i := 8) (oi := ⟨some 60, _, _, _, _, _⟩) (v := ?_) rfl (by kernel_rfl) (by kernel_rfl) (by kernel_rfl) (fun _ _ _ h => h) (Or.inl ⟨by rfl, ?_⟩) (by assumption) ?_
      rotate_left 1
      · (intro w hSw; (try dsimp only at hSw); obtain ⟨y0, y1, y2, y3⟩ := HSO.out _ hSw; go_simp) <;> (with_reducible rfl)
      try simp only [Act.put, List.setIfInBounds_toArray, List.set_cons_zero, List.set_cons_succ]
      refine wpAnyH_take (i := 10) (oi := ⟨some 62, _, _, _, _, _⟩) (v := ?_) rfl (by kernel_rfl) (by kernel_rfl) (by kernel_rfl) (fun _ _ _ h => h) (Or.inl ⟨by rfl, ?_⟩) (by assumption) ?_
      rotate_left 1
      · (intro w hSw; (try dsimp only at hSw); obtain ⟨y0, y1, y2, y3⟩ := HSO.out _ hSw; go_simp) <;> (with_reducible rfl)
      try simp only [Act.put, List.setIfInBounds_toArray, List.set_cons_zero, List.set_cons_succ]
      refine wpAnyH_take (i := 11) (oi := ⟨some 63, _, _, _, _, _⟩) (v := ?_) rfl (by kernel_rfl) (by kernel_rfl) (by kernel_rfl) (fun _ _ _ h => h) (Or.inl ⟨by rfl, ?_⟩) (by assumption) ?_
      rotate_left 1
      · (intro w hSw; (try dsimp only at hSw); obtain ⟨y0, y1, y2, y3⟩ := HSO.out _ hSw; go_simp) <;> (with_reducible rfl)
      try simp only [Act.put, List.setIfInBounds_toArray, List.set_cons_zero, List.set_cons_succ]
      refine wpAnyH_take (i := 12) (oi := ⟨some 64, _, _, _, _, _⟩) (v := ?_) rfl (by kernel_rfl) (by kernel_rfl) (by kernel_rfl) (fun _ _ _ h => h) (Or.inl ⟨by rfl, ?_⟩) (by assumption) ?_
      rotate_left 1
      · (intro w hSw; (try dsimp only at hSw); obtain ⟨y0, y1, y2, y3⟩ := HSO.out _ hSw; go_simp) <;> (with_reducible rfl)
      try simp only [Act.put, List.setIfInBounds_toArray, List.set_cons_zero, List.set_cons_succ]
      refine wpAnyH_ready (rs := [9]) (by kernel_rfl) (by simp) ?_
      refine AllReadyH.cons (o := ⟨some 61, _, _, _, _, _⟩) rfl (fun K hK => ?_) AllReadyH.nil
      have hSw := hHeld
      go_simp
      go_at_call 16
      refine (sget_any w7 g O7 n rs7 HP7.out.st name (by have := HKN.out; omega) (by have := (HL7.out.1.get (n : Int) name).1; omega)).mono ?_
      rintro e w8 ⟨v1, rfl, hfr1, hf8⟩
      obtain ⟨ah, aa, an, ac, am, at_⟩ := v1
      have hB8 := Bk.fr hSw hf8 (fun e => e)
      have HFR1 : Hid (Reads w8 ⟨ah, aa, an, ac, am, at_⟩ (rget (n : Int) rs7 name)) := hfr1.reads HP7.out.st.lx
      have HP8 : Hid (PairS W w8 g gm n rs7 rs7 O7 OM7) := HP7.out.nofr hf8
      unfold vaR
      clear hfr1 hf8 HP7
      refine hK.out _ _ ?_ (fun hHeld => ?_)
      · exact hB8
      clear hK K
      refine wpAnyH_ready (rs := [13]) (by kernel_rfl) (by simp) ?_
      refine AllReadyH.cons (o := ⟨some 65, _, _, _, _, _⟩) rfl (fun K hK => ?_) AllReadyH.nil
      have hSw := hHeld
      go_simp
      go_at_call 17
      refine (rget_any w8 W.heap.size gm OM7 n rs7 HP8.out.rst (by have := HL7.out.2; omega) name (by have := HKN.out; omega)).mono ?_
      rintro e w9 ⟨v2, rfl, hrd2, hf9⟩
      obtain ⟨bh, ba, bn, bc, bm, bt⟩ := v2
      have hB9 := Bk.fr hSw hf9 (fun e => e)
      have HSR : Hid (Calls Try.prog 15 #[.agg #[.bool ah, .slice aa an ac, .int .i64 am, .int .u64 (at_ : Int)], .agg #[.bool bh, .slice ba bn bc, .int .i64 bm, .int .u64 (bt : Int)]] w9 fun e w' => e = .returned (.bool true) ∧ Fr NoBlk w9 w') := samerec_yes w9 ⟨ah, aa, an, ac, am, at_⟩ ⟨bh, ba, bn, bc, bm, bt⟩ _ (HFR1.out.nofr hf9) hrd2
      have HP9 : Hid (PairS W w9 g gm n rs7 rs7 O7 OM7) := HP8.out.nofr hf9
      unfold vaR
      clear hrd2 hf9 HP8 HFR1
      refine hK.out _ _ ?_ (fun hHeld => ?_)
      · exact hB9
      clear hK K
      refine wpAnyH_ready (rs := [14]) (by kernel_rfl) (by simp) ?_
      refine AllReadyH.cons (o := ⟨some 66, _, _, _, _, _⟩) rfl (fun K hK => ?_) AllReadyH.nil
      have hSw := hHeld
      go_simp
      go_at_call 15
      refine HSR.out.mono ?_
      rintro e w10 ⟨rfl, hf10⟩
      have hB10 := Bk.fr hSw hf10 (fun e => e)
      have HP10 : Hid (PairS W w10 g gm n rs7 rs7 O7 OM7) := HP9.out.nofr hf10
      clear hf10 HP9 HSR
      refine hK.out _ _ ?_ (fun hHeld => ?_)
      · exact hB10
      clear hK K
      try simp only [Act.put, List.setIfInBounds_toArray, List.set_cons_zero, List.set_cons_succ]
      refine wpAnyH_take (i := 15) (oi := ⟨some 67, _, _, _, _, _⟩) (v := ?_) rfl (by kernel_rfl) (by kernel_rfl) (by kernel_rfl) (fun _ _ _ h => h) (Or.inl ⟨by rfl, ?_⟩) (by assumption) ?_
      rotate_left 1
      · (intro w hSw; (try dsimp only at hSw); obtain ⟨y0, y1, y2, y3⟩ := HSO.out _ hSw; go_simp) <;> (with_reducible rfl)
      try simp only [Act.put, List.setIfInBounds_toArray, List.set_cons_zero, List.set_cons_succ]
      refine wpAnyH_take (i := 16) (oi := ⟨some 68, _, _, _, _, _⟩) (v := ?_) rfl (by kernel_rfl) (by kernel_rfl) (by kernel_rfl) (fun _ _ _ h => h) (Or.inl ⟨by rfl, ?_⟩) (by assumption) ?_
      rotate_left 1
      · (intro w hSw; (try dsimp only at hSw); obtain ⟨y0, y1, y2, y3⟩ := HSO.out _ hSw; go_simp) <;> (with_reducible rfl)
      try simp only [Act.put, List.setIfInBounds_toArray, List.set_cons_zero, List.set_cons_succ]
      refine wpAnyH_done (by kernel_rfl) ?_ _
      have HB10 := Lib.hid hHeld
      clear hHeld
      have HRW : Hid (Calls Try.prog 18 #[.pointer (some ⟨g, 0, none⟩)] w10 (RowsPost w10 rs7)) := srows_any w10 g O7 n rs7 HP10.out.st (by have := HL7.out.2; omega) HL7.out.1.val
      go_wp2_with fail
      refine HRW.out.mono ?_
      clear HRW
      rintro e w11 ⟨A2, e2, ys, rfl, ho2, hrow2, hf11⟩
      obtain ⟨A3, e3, zs, hz3, hO3, hrz⟩ := HP10.out.rst
      obtain ⟨m2, hm2⟩ : ∃ m, m = rs7.length := ⟨_, rfl⟩
      have hzl : zs.length = m2 := by rw [hm2, hrz, rz_len]
      have hyl : ys.length = m2 := by rw [hm2, hrow2.1]
      rw [← hm2] at ho2 ⊢
      have HSM : Hid (∀ w', Fr NoBlk w11 w' → Calls Try.prog 19 #[.slice A2 m2 e2, .slice A3 m2 e3] w' fun e w'' => e = .returned (.bool true) ∧ Fr NoBlk w' w'') := fun w' hf => by
        have h := same_yes w' A2 e2 ys A3 e3 (vz zs) rs7 (Rd.nofr (Rd.of_ownW ho2) hf) (Rd.nofr (Rd.of_ownW hz3.own) (hf11.trans hf)) ((hrow2.told HP10.out.st.lx).nofr hf) (by rw [hrz]; exact (told_zs hz3.rd).nofr (hf11.trans hf)) (by have := HL7.out.2; omega)
        rw [vz_len, hyl, hzl] at h
        exact h
      have HSK : Hid (∀ w', Fr NoBlk w11 w' → w'.cell? ⟨pb, 1, none⟩ = some (.int .i64 no) ∧ w'.cell? ⟨pb, 2, none⟩ = some (.string (bstr name)) ∧ w'.cell? ⟨gm, 1, none⟩ = some (.slice A3 m2 e3)) := fun w' hf => by
        have h1 := HB10.out.fr (hf11.trans hf) fun e => e
        have h2 := hz3.bk.fr (hf11.trans hf) fun e => e
        rw [hzl] at h2
        exact ⟨h1.cell 1, h1.cell 2, h2.cell 1⟩
      have HSP : Hid (∀ w', Fr NoBlk w11 w' → Calls Try.prog 22 #[.slice A2 m2 e2] w' fun e w'' => (∃ x, e = .returned x) ∧ Fr (fun b => w10.heap.size ≤ b) w' w'') := fun w' hf => by
        have h := spoil_any w' w10.heap.size A2 e2 ys (own_fr (by rw [hyl]; exact ho2) hf fun _ _ e => e) (RowsOf.wr (RowsOf.fr hrow2 hf fun _ _ e => e)) (by rw [hyl]; have := HL7.out.2; omega) fun y hy => by
          obtain ⟨j, hj, rfl⟩ := List.getElem_of_mem hy
          have h2 := (hrow2.2 j _ _ (List.getElem?_eq_getElem hj) (List.getElem?_eq_getElem (by have := hrow2.1; omega))).2.len
          have h3 := HL7.out.1.val _ (List.getElem_mem (l := rs7) (n := j) (by have := hrow2.1; omega))
          omega
        rw [hyl] at h
        exact h
      have HDA : Hid (∀ w', Calls Try.prog 20 #[.string (bstr name), .int .i64 no] w' fun e w'' => e = .returned (.int .i64 hm) ∧ w' = w'') := fun w' => by rw [HHM.out]; exact default_any w' name no (by have := HKN.out; omega)
      have HDB : Hid (∀ w', Calls Try.prog 21 #[.string (bstr name), .int .i64 no] w' fun e w'' => e = .returned (.int .i64 hm) ∧ w' = w'') := fun w' => by rw [HHM.out]; exact rdefault_any w' name no (by have := HKN.out; omega) HNO.out
      have HF11 := Lib.hid hf11
      clear ho2 hrow2 hf11 hz3 hO3 hrz hm2 hzl hyl HB10 HSO HBW
      go_wp2_with fail
      refine wp_region_held_drew (S := fun w' => Fr NoBlk w11 w') (by kernel_rfl) ((Fr.refl _ _).drew) (fun hHeld => ?_)
      refine wpAnyH_take (i := 0) (oi := ⟨some 71, _, _, _, _, _⟩) (v := ?_) rfl (by kernel_rfl) (by kernel_rfl) (by kernel_rfl) (fun _ _ _ h => h) (Or.inl ⟨by rfl, ?_⟩) (by assumption) ?_
      rotate_left 1
      · (intro w hSw; (try dsimp only at hSw); obtain ⟨y0, y1, y2⟩ := HSK.out _ hSw; go_simp) <;> (with_reducible rfl)
      try simp only [Act.put, List.setIfInBounds_toArray, List.set_cons_zero, List.set_cons_succ]
      refine wpAnyH_take (i := 1) (oi := ⟨some 72, _, _, _, _, _⟩) (v := ?_) rfl (by kernel_rfl) (by kernel_rfl) (by kernel_rfl) (fun _ _ _ h => h) (Or.inl ⟨by rfl, ?_⟩) (by assumption) ?_
      rotate_left 1
      · (intro w hSw; (try dsimp only at hSw); obtain ⟨y0, y1, y2⟩ := HSK.out _ hSw; go_simp) <;> (with_reducible rfl)
      try simp only [Act.put, List.setIfInBounds_toArray, List.set_cons_zero, List.set_cons_succ]
      refine wpAnyH_take (i := 2) (oi := ⟨some 73, _, _, _, _, _⟩) (v := ?_) rfl (by kernel_rfl) (by kernel_rfl) (by kernel_rfl) (fun _ _ _ h => h) (Or.inl ⟨by rfl, ?_⟩) (by assumption) ?_
      rotate_left 1
      · (intro w hSw; (try dsimp only at hSw); obtain ⟨y0, y1, y2⟩ := HSK.out _ hSw; go_simp) <;> (with_reducible rfl)
      try simp only [Act.put, List.setIfInBounds_toArray, List.set_cons_zero, List.set_cons_succ]
      refine wpAnyH_take (i := 3) (oi := ⟨some 74, _, _, _, _, _⟩) (v := ?_) rfl (by kernel_rfl) (by kernel_rfl) (by kernel_rfl) (fun _ _ _ h => h) (Or.inl ⟨by rfl, ?_⟩) (by assumption) ?_
      rotate_left 1
      · (intro w hSw; (try dsimp only at hSw); obtain ⟨y0, y1, y2⟩ := HSK.out _ hSw; go_simp) <;> (with_reducible rfl)
      try simp only [Act.put, List.setIfInBounds_toArray, List.set_cons_zero, List.set_cons_succ]
      refine wpAnyH_take (i := 4) (oi := ⟨some 75, _, _, _, _, _⟩) (v := ?_) rfl (by kernel_rfl) (by kernel_rfl) (by kernel_rfl) (fun _ _ _ h => h) (Or.inl ⟨by rfl, ?_⟩) (by assumption) ?_
      rotate_left 1
      · (intro w hSw; (try dsimp only at hSw); obtain ⟨y0, y1, y2⟩ := HSK.out _ hSw; go_simp) <;> (with_reducible rfl)
      try simp only [Act.put, List.setIfInBounds_toArray, List.set_cons_zero, List.set_cons_succ]
      refine wpAnyH_ready (rs := [5]) (by kernel_rfl) (by simp) ?_
      refine AllReadyH.cons (o := ⟨some 76, _, _, _, _, _⟩) rfl (fun K hK => ?_) AllReadyH.nil
      have hSw := hHeld
      go_simp
      go_at_call 19
      refine (HSM.out _ hSw).mono ?_
      rintro e w12 ⟨rfl, hf12⟩
      have hf12 := hSw.trans hf12
      refine hK.out _ _ ?_ (fun hHeld => ?_)
      · exact hf12
      clear hK K
      try simp only [Act.put, List.setIfInBounds_toArray, List.set_cons_zero, List.set_cons_succ]
      refine wpAnyH_take (i := 6) (oi := ⟨some 77, _, _, _, _, _⟩) (v := ?_) rfl (by kernel_rfl) (by kernel_rfl) (by kernel_rfl) (fun _ _ _ h => h) (Or.inl ⟨by rfl, ?_⟩) (by assumption) ?_
      rotate_left 1
      · (intro w hSw; (try dsimp only at hSw); obtain ⟨y0, y1, y2⟩ := HSK.out _ hSw; go_simp) <;> (with_reducible rfl)
      try simp only [Act.put, List.setIfInBounds_toArray, List.set_cons_zero, List.set_cons_succ]
      refine wpAnyH_take (i := 7) (oi := ⟨some 78, _, _, _, _, _⟩) (v := ?_) rfl (by kernel_rfl) (by kernel_rfl) (by kernel_rfl) (fun _ _ _ h => h) (Or.inl ⟨by rfl, ?_⟩) (by assumption) ?_
      rotate_left 1
      · (intro w hSw; (try dsimp only at hSw); obtain ⟨y0, y1, y2⟩ := HSK.out _ hSw; go_simp) <;> (with_reducible rfl)
      try simp only [Act.put, List.setIfInBounds_toArray, List.set_cons_zero, List.set_cons_succ]
      refine wpAnyH_take (i := 8) (oi := ⟨some 79, _, _, _, _, _⟩) (v := ?_) rfl (by kernel_rfl) (by kernel_rfl) (by kernel_rfl) (fun _ _ _ h => h) (Or.inl ⟨by rfl, ?_⟩) (by assumption) ?_
      rotate_left 1
      · (intro w hSw; (try dsimp only at hSw); obtain ⟨y0, y1, y2⟩ := HSK.out _ hSw; go_simp) <;> (with_reducible rfl)
      try simp only [Act.put, List.setIfInBounds_toArray, List.set_cons_zero, List.set_cons_succ]
      refine wpAnyH_take (i := 9) (oi := ⟨some 80, _, _, _, _, _⟩) (v := ?_) rfl (by kernel_rfl) (by kernel_rfl) (by kernel_rfl) (fun _ _ _ h => h) (Or.inl ⟨by rfl, ?_⟩) (by assumption) ?_
      rotate_left 1
      · (intro w hSw; (try dsimp only at hSw); obtain ⟨y0, y1, y2⟩ := HSK.out _ hSw; go_simp) <;> (with_reducible rfl)
      try simp only [Act.put, List.setIfInBounds_toArray, List.set_cons_zero, List.set_cons_succ]
      refine wpAnyH_take (i := 10) (oi := ⟨some 81, _, _, _, _, _⟩) (v := ?_) rfl (by kernel_rfl) (by kernel_rfl) (by kernel_rfl) (fun _ _ _ h => h) (Or.inl ⟨by rfl, ?_⟩) (by assumption) ?_
      rotate_left 1
      · (intro w hSw; (try dsimp only at hSw); obtain ⟨y0, y1, y2⟩ := HSK.out _ hSw; go_simp) <;> (with_reducible rfl)
      try simp only [Act.put, List.setIfInBounds_toArray, List.set_cons_zero, List.set_cons_succ]
      refine wpAnyH_take (i := 11) (oi := ⟨some 82, _, _, _, _, _⟩) (v := ?_) rfl (by kernel_rfl) (by kernel_rfl) (by kernel_rfl) (fun _ _ _ h => h) (Or.inl ⟨by rfl, ?_⟩) (by assumption) ?_
      rotate_left 1
      · (intro w hSw; (try dsimp only at hSw); obtain ⟨y0, y1, y2⟩ := HSK.out _ hSw; go_simp) <;> (with_reducible rfl)
      try simp only [Act.put, List.setIfInBounds_toArray, List.set_cons_zero, List.set_cons_succ]
      refine wpAnyH_take (i := 13) (oi := ⟨some 84, _, _, _, _, _⟩) (v := ?_) rfl (by kernel_rfl) (by kernel_rfl) (by kernel_rfl) (fun _ _ _ h => h) (Or.inl ⟨by rfl, ?_⟩) (by assumption) ?_
      rotate_left 1
      · (intro w hSw; (try dsimp only at hSw); obtain ⟨y0, y1, y2⟩ := HSK.out _ hSw; go_simp) <;> (with_reducible rfl)
      try simp only [Act.put, List.setIfInBounds_toArray, List.set_cons_zero, List.set_cons_succ]
      refine wpAnyH_take (i := 14) (oi := ⟨some 85, _, _, _, _, _⟩) (v := ?_) rfl (by kernel_rfl) (by kernel_rfl) (by kernel_rfl) (fun _ _ _ h => h) (Or.inl ⟨by rfl, ?_⟩) (by assumption) ?_
      rotate_left 1
      · (intro w hSw; (try dsimp only at hSw); obtain ⟨y0, y1, y2⟩ := HSK.out _ hSw; go_simp) <;> (with_reducible rfl)
      try simp only [Act.put, List.setIfInBounds_toArray, List.set_cons_zero, List.set_cons_succ]
      refine wpAnyH_take (i := 15) (oi := ⟨some 86, _, _, _, _, _⟩) (v := ?_) rfl (by kernel_rfl) (by kernel_rfl) (by kernel_rfl) (fun _ _ _ h => h) (Or.inl ⟨by rfl, ?_⟩) (by assumption) ?_
      rotate_left 1
      · (intro w hSw; (try dsimp only at hSw); obtain ⟨y0, y1, y2⟩ := HSK.out _ hSw; go_simp) <;> (with_reducible rfl)
      try simp only [Act.put, List.setIfInBounds_toArray, List.set_cons_zero, List.set_cons_succ]
      refine wpAnyH_take (i := 16) (oi := ⟨some 87, _, _, _, _, _⟩) (v := ?_) rfl (by kernel_rfl) (by kernel_rfl) (by kernel_rfl) (fun _ _ _ h => h) (Or.inl ⟨by rfl, ?_⟩) (by assumption) ?_
      rotate_left 1
      · (intro w hSw; (try dsimp only at hSw); obtain ⟨y0, y1, y2⟩ := HSK.out _ hSw; go_simp) <;> (with_reducible rfl)
      try simp only [Act.put, List.setIfInBounds_toArray, List.set_cons_zero, List.set_cons_succ]
      refine wpAnyH_ready (rs := [12]) (by kernel_rfl) (by simp) ?_
      refine AllReadyH.cons (o := ⟨some 83, _, _, _, _, _⟩) rfl (fun K hK => ?_) AllReadyH.nil
      have hSw := hHeld
      go_simp
      go_at_call 20
      refine (HDA.out _).mono ?_
      rintro e w13 ⟨rfl, rfl⟩
      refine hK.out _ _ ?_ (fun hHeld => ?_)
      · exact hSw
      clear hK K
      try simp only [Act.put, List.setIfInBounds_toArray, List.set_cons_zero, List.set_cons_succ]
      refine wpAnyH_ready (rs := [17]) (by kernel_rfl) (by simp) ?_
      refine AllReadyH.cons (o := ⟨some 88, _, _, _, _, _⟩) rfl (fun K hK => ?_) AllReadyH.nil
      have hSw := hHeld
      go_simp
      go_at_call 21
      refine (HDB.out _).mono ?_
      rintro e w14 ⟨rfl, rfl⟩
      refine hK.out _ _ ?_ (fun hHeld => ?_)
      · exact hSw
      clear hK K
      try simp only [Act.put, List.setIfInBounds_toArray, List.set_cons_zero, List.set_cons_succ]
      refine wpAnyH_take (i := 18) (oi := ⟨some 89, _, _, _, _, _⟩) (v := ?_) rfl (by kernel_rfl) (by kernel_rfl) (by kernel_rfl) (fun _ _ _ h => h) (Or.inl ⟨by rfl, ?_⟩) (by assumption) ?_
      rotate_left 1
      · (intro w hSw; (try dsimp only at hSw); obtain ⟨y0, y1, y2⟩ := HSK.out _ hSw; go_simp) <;> (with_reducible rfl)
      try simp only [Act.put, List.setIfInBounds_toArray, List.set_cons_zero, List.set_cons_succ]
      refine wpAnyH_take (i := 19) (oi := ⟨some 90, _, _, _, _, _⟩) (v := ?_) rfl (by kernel_rfl) (by kernel_rfl) (by kernel_rfl) (fun _ _ _ h => h) (Or.inl ⟨by rfl, ?_⟩) (by assumption) ?_
      rotate_left 1
      · (intro w hSw; (try dsimp only at hSw); obtain ⟨y0, y1, y2⟩ := HSK.out _ hSw; go_simp) <;> (with_reducible rfl)
      try simp only [Act.put, List.setIfInBounds_toArray, List.set_cons_zero, List.set_cons_succ]
      refine wpAnyH_done (by kernel_rfl) ?_ _
      have HSP2 := Lib.hid (HSP.out _ hHeld)
      have HF12 := Lib.hid hHeld
      clear HSM HSK HDA HDB HSP hHeld hne
      go_wp2_with fail
      refine HSP2.out.mono ?_
      clear HSP2
      rintro e w16 ⟨⟨x16, rfl⟩, hf16⟩
      have HI5 : Hid (∃ rs, Pair W w16 g gm n rs ∧ Lim (k + 1) rs) := ⟨rs7, ⟨_, _, _, (HP10.out.nofr ((HF11.out.trans HF12.out).step hf16 fun i hi e => by omega) : PairS W w16 g gm n rs7 rs7 O7 OM7)⟩, HL7.out.1⟩
      clear hf16 HP10 HF11 HF12
      go_wp2_with fail
      go_roundw
      case rel => exact ⟨k + 1, by go_num, by omega, HI5⟩
      case measure => simp [intOf]; omega
    · obtain ⟨rs, ⟨O5, OM5, o5, hpr⟩, hlm⟩ := HI.out
      obtain ⟨E, hps⟩ : ∃ E : Ex, PairS W wr g gm n rs rs O5 OM5 := ⟨⟨o5⟩, hpr⟩
      obtain ⟨A3, e3, zs, hz3, hO3, hrz⟩ := hps.rst
      obtain ⟨m2, hm2⟩ : ∃ m, m = rs.length := ⟨_, rfl⟩
      have hzl : zs.length = m2 := by rw [hm2, hrz, rz_len]
      have hlen : rs.length ≤ 100 := by have := hlm.1; omega
      have hvl : ∀ x ∈ rs, x.1.length ≤ 500 ∧ x.2.val.length ≤ 500 := fun x hx => ⟨(hlm.2 x hx).2.2, (hlm.2 x hx).1⟩
      have HRW : Hid (∀ w', Fr NoBlk wr w' → Calls Try.prog 18 #[.pointer (some ⟨g, 0, none⟩)] w' fun e w11 => ∃ A2 e2, e = .returned (.slice A2 m2 e2) ∧ Fr NoBlk w' w11 ∧ ∀ w'', Fr NoBlk w11 w'' → Calls Try.prog 19 #[.slice A2 m2 e2, .slice A3 m2 e3] w'' fun e w3 => e = .returned (.bool true) ∧ Fr NoBlk w'' w3) := fun w' hf => by
        refine (srows_any w' g O5 n rs (hps.st.nofr hf) (by omega) hlm.val).mono ?_
        rintro e w11 ⟨A2, e2, ys, rfl, ho2, hrow2, hf11⟩
        have hyl : ys.length = m2 := by rw [hm2, hrow2.1]
        refine ⟨A2, e2, by rw [hm2], hf11, fun w'' hf2 => ?_⟩
        have h := same_yes w'' A2 e2 ys A3 e3 (vz zs) rs (Rd.nofr (Rd.of_ownW ho2) hf2) (Rd.nofr (Rd.of_ownW hz3.own) ((hf.trans hf11).trans hf2)) ((hrow2.told (hps.st.nofr hf).lx).nofr hf2) (by rw [hrz]; exact (told_zs hz3.rd).nofr ((hf.trans hf11).trans hf2)) (by omega)
        rw [vz_len, hyl, hzl] at h
        exact h
      have HSA : Hid (∀ w', Fr NoBlk wr w' → Calls Try.prog 23 #[.pointer (some ⟨g, 0, none⟩)] w' fun e w2 => ∃ v', e = .returned v' ∧ New w' w2 v' (snapB n rs)) := fun w' hf => ssnap_any w' g O5 n rs (hps.st.nofr hf) (by omega) hvl
      have HSB : Hid (∀ w', Fr NoBlk wr w' → Calls Try.prog 24 #[.pointer (some ⟨gm, 0, none⟩)] w' fun e w2 => ∃ v', e = .returned v' ∧ New w' w2 v' (snapB n rs)) := fun w' hf => rsnap_any w' W.heap.size gm OM5 n rs (hps.rst.nofr hf) (by omega) hvl
      have HSK : Hid (∀ w', Fr NoBlk wr w' → w'.cell? ⟨gm, 1, none⟩ = some (.slice A3 m2 e3)) := fun w' hf => by
        have h2 := hz3.bk.fr hf fun e => e
        rw [hzl] at h2
        exact h2.cell 1
      have HFW := Lib.hid hps.fr
      obtain ⟨sb, hsb⟩ : ∃ l, l = snapB n rs := ⟨_, rfl⟩
      rw [← hsb] at HSA HSB
      have hqq : ((bstr sb).toList == (bstr sb).toList) = true := eq_bstr rfl
      clear hpr hps hlm hz3 hO3 hrz hm2 hzl hlen hvl HI hw2 hsb
      go_wp2_with fail
      refine wp_region_held_drew (S := fun w' => Fr NoBlk wr w') (by kernel_rfl) ((Fr.refl _ _).drew) (fun hHeld => ?_)
      refine wpAnyH_take (i := 0) (oi := ⟨some 94, _, _, _, _, _⟩) (v := ?_) rfl (by kernel_rfl) (by kernel_rfl) (by kernel_rfl) (fun _ _ _ h => h) (Or.inl ⟨by rfl, ?_⟩) (by assumption) ?_
      rotate_left 1
      · (intro w hSw; (try dsimp only at hSw); have y0 := HSK.out _ hSw; go_simp) <;> (with_reducible rfl)
      try simp only [Act.put, List.setIfInBounds_toArray, List.set_cons_zero, List.set_cons_succ]
      refine wpAnyH_take (i := 2) (oi := ⟨some 96, _, _, _, _, _⟩) (v := ?_) rfl (by kernel_rfl) (by kernel_rfl) (by kernel_rfl) (fun _ _ _ h => h) (Or.inl ⟨by rfl, ?_⟩) (by assumption) ?_
      rotate_left 1
      · (intro w hSw; (try dsimp only at hSw); have y0 := HSK.out _ hSw; go_simp) <;> (with_reducible rfl)
      try simp only [Act.put, List.setIfInBounds_toArray, List.set_cons_zero, List.set_cons_succ]
      refine wpAnyH_take (i := 3) (oi := ⟨some 97, _, _, _, _, _⟩) (v := ?_) rfl (by kernel_rfl) (by kernel_rfl) (by kernel_rfl) (fun _ _ _ h => h) (Or.inl ⟨by rfl, ?_⟩) (by assumption) ?_
      rotate_left 1
      · (intro w hSw; (try dsimp only at hSw); have y0 := HSK.out _ hSw; go_simp) <;> (with_reducible rfl)
      try simp only [Act.put, List.setIfInBounds_toArray, List.set_cons_zero, List.set_cons_succ]
      refine wpAnyH_take (i := 4) (oi := ⟨some 98, _, _, _, _, _⟩) (v := ?_) rfl (by kernel_rfl) (by kernel_rfl) (by kernel_rfl) (fun _ _ _ h => h) (Or.inl ⟨by rfl, ?_⟩) (by assumption) ?_
      rotate_left 1
      · (intro w hSw; (try dsimp only at hSw); have y0 := HSK.out _ hSw; go_simp) <;> (with_reducible rfl)
      try simp only [Act.put, List.setIfInBounds_toArray, List.set_cons_zero, List.set_cons_succ]
      refine wpAnyH_take (i := 5) (oi := ⟨some 99, _, _, _, _, _⟩) (v := ?_) rfl (by kernel_rfl) (by kernel_rfl) (by kernel_rfl) (fun _ _ _ h => h) (Or.inl ⟨by rfl, ?_⟩) (by assumption) ?_
      rotate_left 1
      · (intro w hSw; (try dsimp only at hSw); have y0 := HSK.out _ hSw; go_simp) <;> (with_reducible rfl)
      try simp only [Act.put, List.setIfInBounds_toArray, List.set_cons_zero, List.set_cons_succ]
      refine wpAnyH_ready (rs := [1]) (by kernel_rfl) (by simp) ?_
      refine AllReadyH.cons (o := ⟨some 95, _, _, _, _, _⟩) rfl (fun K hK => ?_) AllReadyH.nil
      have hSw := hHeld
      go_simp
      go_at_call 18
      refine (HRW.out _ hSw).mono ?_
      rintro e w11 ⟨A2, e2, rfl, hf11, hsm⟩
      have HSM := Lib.hid hsm
      have HF11 : Hid (Fr NoBlk wr w11) := hSw.trans hf11
      clear hsm hf11
      refine hK.out _ _ ?_ (fun hHeld => ?_)
      · exact HF11.out
      clear hK K
      try simp only [Act.put, List.setIfInBounds_toArray, List.set_cons_zero, List.set_cons_succ]
      refine wpAnyH_ready (rs := [6]) (by kernel_rfl) (by simp) ?_
      refine AllReadyH.cons (o := ⟨some 100, _, _, _, _, _⟩) rfl (fun K hK => ?_) AllReadyH.nil
      go_simp
      go_at_call 19
      refine (HSM.out _ (Fr.refl _ _)).mono ?_
      rintro e w12 ⟨rfl, hf12⟩
      have HF12 : Hid (Fr NoBlk wr w12) := HF11.out.trans hf12
      clear hf12
      refine hK.out _ _ ?_ (fun hHeld => ?_)
      · exact HF12.out
      clear hK K
      try simp only [Act.put, List.setIfInBounds_toArray, List.set_cons_zero, List.set_cons_succ]
      refine wpAnyH_take (i := 7) (oi := ⟨some 101, _, _, _, _, _⟩) (v := ?_) rfl (by kernel_rfl) (by kernel_rfl) (by kernel_rfl) (fun _ _ _ h => h) (Or.inl ⟨by rfl, ?_⟩) (by assumption) ?_
      rotate_left 1
      · (intro w hSw; (try dsimp only at hSw); have y0 := HSK.out _ hSw; go_simp) <;> (with_reducible rfl)
      try simp only [Act.put, List.setIfInBounds_toArray, List.set_cons_zero, List.set_cons_succ]
      refine wpAnyH_take (i := 8) (oi := ⟨some 102, _, _, _, _, _⟩) (v := ?_) rfl (by kernel_rfl) (by kernel_rfl) (by kernel_rfl) (fun _ _ _ h => h) (Or.inl ⟨by rfl, ?_⟩) (by assumption) ?_
      rotate_left 1
      · (intro w hSw; (try dsimp only at hSw); have y0 := HSK.out _ hSw; go_simp) <;> (with_reducible rfl)
      try simp only [Act.put, List.setIfInBounds_toArray, List.set_cons_zero, List.set_cons_succ]
      refine wpAnyH_take (i := 11) (oi := ⟨some 105, _, _, _, _, _⟩) (v := ?_) rfl (by kernel_rfl) (by kernel_rfl) (by kernel_rfl) (fun _ _ _ h => h) (Or.inl ⟨by rfl, ?_⟩) (by assumption) ?_
      rotate_left 1
      · (intro w hSw; (try dsimp only at hSw); have y0 := HSK.out _ hSw; go_simp) <;> (with_reducible rfl)
      try simp only [Act.put, List.setIfInBounds_toArray, List.set_cons_zero, List.set_cons_succ]
      refine wpAnyH_ready (rs := [9]) (by kernel_rfl) (by simp) ?_
      refine AllReadyH.cons (o := ⟨some 103, _, _, _, _, _⟩) rfl (fun K hK => ?_) AllReadyH.nil
      go_simp
      go_at_call 23
      refine (HSA.out _ HF12.out).mono ?_
      rintro e w13 ⟨v3, rfl, hn3⟩
      obtain ⟨A5, c5, rfl, _, _⟩ := own_form hn3.own
      obtain ⟨m5, hm5⟩ : ∃ m, m = sb.length := ⟨_, rfl⟩
      have HF13 : Hid (Fr NoBlk wr w13) := HF12.out.trans hn3.fr
      have HR5 : Hid (Rd w13 A5 (cb sb) ∧ m5 = sb.length) := ⟨Rd.of_own hn3.own, hm5⟩
      rw [← hm5]
      clear hn3 hm5
      have HQA : Hid (∀ w', Fr NoBlk w13 w' → (convert 31 9 (.slice A5 m5 c5)).run Try.prog w' = .ok (.string (bstr sb)) w') := fun w' hf => strBs w' A5 m5 c5 sb HR5.out.2 (HR5.out.1.nofr hf)
      refine hK.out _ _ ?_ (fun hHeld => ?_)
      · exact HF13.out
      clear hK K
      try simp only [Act.put, List.setIfInBounds_toArray, List.set_cons_zero, List.set_cons_succ]
      refine wpAnyH_more (S' := fun w' => Fr NoBlk w13 w') (fun _ h => HF13.out.trans h) _ _ _ _ ?_
      clear hHeld
      have hHeld : (fun w' => Fr NoBlk w13 w') w13 := Fr.refl _ _
      refine wpAnyH_take (i := 10) (oi := ⟨some 104, _, _, _, _, _⟩) (v := ?_) rfl (by kernel_rfl) (by kernel_rfl) (by kernel_rfl) (fun _ _ _ h => h) (Or.inl ⟨by rfl, ?_⟩) (by assumption) ?_
      rotate_left 1
      · (intro w hSw; (try dsimp only at hSw); have y0 := HQA.out _ hSw; go_simp) <;> (with_reducible rfl)
      try simp only [Act.put, List.setIfInBounds_toArray, List.set_cons_zero, List.set_cons_succ]
      refine wpAnyH_ready (rs := [12]) (by kernel_rfl) (by simp) ?_
      refine AllReadyH.cons (o := ⟨some 106, _, _, _, _, _⟩) rfl (fun K hK => ?_) AllReadyH.nil
      go_simp
      go_at_call 24
      refine (HSB.out _ HF13.out).mono ?_
      rintro e w14 ⟨v4, rfl, hn4⟩
      obtain ⟨A6, c6, rfl, _, _⟩ := own_form hn4.own
      have HF14 : Hid (Fr NoBlk w13 w14) := hn4.fr
      have HR6 : Hid (Rd w14 A6 (cb sb)) := Rd.of_own hn4.own
      rw [← HR5.out.2]
      clear hn4
      have HQB : Hid (∀ w', Fr NoBlk w14 w' → (convert 31 9 (.slice A6 m5 c6)).run Try.prog w' = .ok (.string (bstr sb)) w') := fun w' hf => strBs w' A6 m5 c6 sb HR5.out.2 (HR6.out.nofr hf)
      refine hK.out _ _ ?_ (fun hHeld => ?_)
      · exact HF14.out
      clear hK K
      try simp only [Act.put, List.setIfInBounds_toArray, List.set_cons_zero, List.set_cons_succ]
      refine wpAnyH_more (S' := fun w' => Fr NoBlk w14 w') (fun _ h => HF14.out.trans h) _ _ _ _ ?_
      clear hHeld
      have hHeld : (fun w' => Fr NoBlk w14 w') w14 := Fr.refl _ _
      refine wpAnyH_take (i := 13) (oi := ⟨some 107, _, _, _, _, _⟩) (v := ?_) rfl (by kernel_rfl) (by kernel_rfl) (by kernel_rfl) (fun _ _ _ h => h) (Or.inl ⟨by rfl, ?_⟩) (by assumption) ?_
      rotate_left 1
      · (intro w hSw; (try dsimp only at hSw); have y0 := HQB.out _ hSw; go_simp) <;> (with_reducible rfl)
      try simp only [Act.put, List.setIfInBounds_toArray, List.set_cons_zero, List.set_cons_succ]
      refine wpAnyH_take (i := 14) (oi := ⟨some 108, _, _, _, _, _⟩) (v := ?_) rfl (by kernel_rfl) (by kernel_rfl) (by kernel_rfl) (fun _ _ _ h => h) (Or.inl ⟨by rfl, ?_⟩) (by assumption) ?_
      rotate_left 1
      · (intro w hSw; (try dsimp only at hSw); have y0 := HQB.out _ hSw; go_simp) <;> (with_reducible rfl)
      try simp only [Act.put, List.setIfInBounds_toArray, List.set_cons_zero, List.set_cons_succ]
      refine wpAnyH_take (i := 15) (oi := ⟨some 109, _, _, _, _, _⟩) (v := ?_) rfl (by kernel_rfl) (by kernel_rfl) (by kernel_rfl) (fun _ _ _ h => h) (Or.inl ⟨by rfl, ?_⟩) (by assumption) ?_
      rotate_left 1
      · (intro w hSw; (try dsimp only at hSw); have y0 := HQB.out _ hSw; go_simp) <;> (with_reducible rfl)
      try simp only [Act.put, List.setIfInBounds_toArray, List.set_cons_zero, List.set_cons_succ]
      refine wpAnyH_take (i := 16) (oi := ⟨some 4, _, _, _, _, _⟩) (v := ?_) rfl (by kernel_rfl) (by kernel_rfl) (by kernel_rfl) (fun _ _ _ h => h) (Or.inl ⟨by rfl, ?_⟩) (by assumption) ?_
      rotate_left 1
      · (intro w hSw; (try dsimp only at hSw); have y0 := HQB.out _ hSw; go_simp) <;> (with_reducible rfl)
      try simp only [Act.put, List.setIfInBounds_toArray, List.set_cons_zero, List.set_cons_succ]
      refine wpAnyH_done (by kernel_rfl) ?_ _
      have HFZ : Hid (Fr NoBlk W w14) := HFW.out.trans (HF13.out.trans HF14.out)
      go_wp2_with fail
      go_ret
      exact ⟨rfl, HFZ.out⟩

theorem paramsOk : ∀ t ∈ Try.f3.params.toList, Try.prog.readableRec t = true ∧ t < Try.prog.types.size := fun t ht => by
  have h := List.all_eq_true.1 (show (Try.f3.params.toList.all fun t => Try.prog.readableRec t && decide (t < Try.prog.types.size)) = true by kernel_rfl) t ht
  simpa using h

set_option maxRecDepth 100000 in
theorem lifted (os : Os) (started : os.Started) (H : Type) (enc : TypeId × Value → H) :
    ReturnsInHanded {} Try.checked os 3 .any (Rows.storePlaysSpec.pre6 enc Try.prog Try.f3 Rows.storePlaysRow.domain false) (Rows.storePlaysSpec.post enc Try.prog Try.f3 false true false false) := by
  refine returnsInHanded_of_change (C := Try.checked) own started (by kernel_rfl) Try.func3
    (ChangeSpec.witness6 (enc := enc) (C := Try.checked) false ⟨#[], #[.int .i64 0, .slice none 0 0], []⟩ 8 (by kernel_rfl) (by kernel_rfl) (by kernel_rfl) (by kernel_rfl)) ?_
  intro W base args ds gs before hval0 hW _ _
  have hval : ∀ (j : Nat) t v, Try.f3.params[j]? = some t → args[j]? = some v → Value.okWide Try.prog W .any base t v := hval0
  have hW' := hW
  obtain ⟨p, q, hA0, hV, rfl, _, _⟩ := hW
  have hA : DataW.TrodAll enc Try.prog W 0 (fun _ => true) true Try.f3.params.toList args.toList ds p := hA0
  rw [Try.params3] at hA hval
  obtain ⟨v0, vs0, d0, ds0, p0, q0, hargs, rfl, rfl, h0, r0⟩ := trodAll_cons hA
  obtain ⟨v1, vs1, d1, ds1, p1, q1, rfl, rfl, rfl, h1, r1⟩ := trodAll_cons r0
  obtain ⟨rfl, rfl, rfl⟩ := trodAll_nil r1
  obtain rfl : args = #[v0, v1] := by cases args; simp_all
  obtain ⟨rfl, rfl⟩ := trodVars_none hV
  obtain ⟨z0, rfl, rfl, rfl, w0⟩ := open_int Try.underlying3 (hval 0 _ v0 rfl rfl) h0
  obtain ⟨A, c, l, rfl, hr, hx, hn, hm⟩ := open_ops (hval 1 _ v1 rfl rfl) h1
  have walk := walk W z0 A c l hr hx (Nat.le_trans hn hm)
  clear hA0 hval0
  refine walk.mono fun e W' ⟨he, hf⟩ => ?_
  subst he
  exact ⟨_, rfl, law_post laidOut paramsOk rfl rfl Try.underlying4 hW' rfl rfl rfl hf⟩

theorem said : Rows.StorePlaysSaid :=
  OpenClaim.holds_of_wide 3 Try.f3 rfl rfl rfl rfl rfl rfl rfl ⟨rfl, rfl, rfl, rfl, rfl⟩ rfl rfl rfl rfl rfl (by kernel_rfl) Try.func3 (by kernel_rfl)
    (of_decide_eq_true (by kernel_rfl)) (by unfold Func.isWrapper; first | (rw [if_pos (by decide +kernel)]; kernel_rfl) | (rw [if_neg (by decide +kernel)]; exact ⟨rfl, rfl⟩))
    (fun os started H enc _ => lifted os started H enc)
end Go.Proofs.Ytkdcacajacndmaa.storePlays
