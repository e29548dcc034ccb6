/- StoreClones is true: a store and its clone don't see each other; a clone, and what is restored of its snapshot, has the same rows. No condition. -/
import Derived.Test.YtkdcacajacndmaaSpk6
import Derived.Test.YtkdcacajacndmaaSmX
import Derived.Test.YtkdcacajacndmaaRfA
import Derived.ChangeMaps5
import Derived.Lib.Hide
import Derived.Test.YtkdcacajacndmaaTrC
import Derived.Deep.RegionHeld3
namespace Go.Proofs.Ytkdcacajacndmaa.storeClones
open Go.ChangeShapes Go.WideShapes Go.ChangeAt Go.RowKit
theorem OpIn.nofr {W W' : World} {x : Opn} (h : OpIn W x) (hf : Fr NoBlk W W') : OpIn W' x := ⟨⟨⟨h.1.1.1.nofr hf, h.1.1.2⟩, h.1.2⟩, h.2⟩
theorem rows_hi {W W' : World} {lo : Nat} {ys : List ItR} {rs : List Rw} (h : RowsOf W lo ys rs) (hf : Fr (fun b => b < lo) W W') : RowsOf W' lo ys rs :=
  ⟨h.1, fun j y z hy hz => by
    obtain ⟨h1, h2⟩ := h.2 j y z hy hz
    exact ⟨h1, ⟨h2.has, h2.home, h2.count, h2.len, own_fr h2.own hf fun k hk e => by have := (own_in h2.own hk).1; omega⟩⟩⟩
theorem _root_.Go.Proofs.Ytkdcacajacndmaa.RSt.nofrN {w w' : World} {B g n : Nat} {O : Nat → Prop} {rs : List Rw} (h : @RSt ⟨none⟩ w B g O n rs) (hf : Fr NoBlk w w') : @RSt ⟨none⟩ w' B g O n rs := by
  obtain ⟨E, hE⟩ : ∃ E : Ex, E = ⟨none⟩ := ⟨_, rfl⟩
  rw [← hE] at h ⊢
  exact h.nofr hf
set_option maxRecDepth 100000 in
set_option maxHeartbeats 4000000 in
theorem walk (W : World) (A : Option Addr) (c : Nat) (xs : List Opn) (hr : Rd W A (opsc xs)) (hx : ∀ x ∈ xs, OpIn W x) (hm : xs.length ≤ maxLen) (B : Option Addr) (d : Nat) (ys : List Opn) (hr2 : Rd W B (opsc ys)) (hx2 : ∀ x ∈ ys, OpIn W x) (hm2 : ys.length ≤ maxLen) (reg : Int) :
    Calls Try.prog 4 #[.slice A xs.length c, .slice B ys.length d, .int .i64 reg] W fun e W' => e = .returned (.bool true) ∧ Fr NoBlk W W' := by
  obtain ⟨qb, hqb, hqb1⟩ := low_bits reg 1 (by decide)
  obtain ⟨n, hn⟩ : ∃ n, n = qb + 1 := ⟨_, rfl⟩
  have HQB : Hid (bits .and .i64 reg 1 = (qb : Int) ∧ n = qb + 1 ∧ qb ≤ 1) := ⟨hqb, hn, hqb1⟩
  have HN3 : Hid (1 ≤ n ∧ n ≤ 3) := ⟨by omega, by omega⟩
  clear hqb hqb1 hn
  have HS := Lib.hid (@speaks_any ⟨none⟩ W fun k e => by cases e)
  have HR := Lib.hid (And.intro hr (And.intro hx hm))
  have HRY := Lib.hid (And.intro hr2 (And.intro hx2 hm2))
  obtain ⟨N, hN⟩ : ∃ N, N = xs.length := ⟨_, rfl⟩
  obtain ⟨M, hM⟩ : ∃ N, N = ys.length := ⟨_, rfl⟩
  have HNN := Lib.hid hN
  have HMM := Lib.hid hM
  rw [← hN, ← hM]
  clear hr hx hm hr2 hx2 hm2 hN hM
  go_enter Try.func4, Try.ntmps4
  go_wp2_with fail
  refine HS.out.mono ?_
  clear HS
  rintro e w1 ⟨rfl, hf1⟩
  have HGR : Hid (Calls Try.prog 11 #[.slice A N c] w1 fun e w' => GreatPost xs e ∧ Fr NoBlk w1 w') := by
    have h := great_any w1 A c xs (HR.out.1.nofr hf1) (fun x hx => OpIn.nofr (HR.out.2.1 x hx) hf1) HR.out.2.2
    rw [← HNN.out] at h
    exact h
  have HGY : Hid (∀ w', Fr NoBlk w1 w' → Calls Try.prog 11 #[.slice B M d] w' fun e w2 => GreatPost ys e ∧ Fr NoBlk w' w2) := fun w' hf => by
    have h := great_any w' B d ys (HRY.out.1.nofr (hf1.trans hf)) (fun x hx => OpIn.nofr (HRY.out.2.1 x hx) (hf1.trans hf)) HRY.out.2.2
    rw [← HMM.out] at h
    exact h
  have HF1 := Lib.hid hf1
  clear hf1
  go_wp2_with fail
  refine HGR.out.mono ?_
  clear HGR
  rintro e w2 ⟨⟨b, rfl, hsm⟩, hf2⟩
  have HSM := Lib.hid hsm
  have HF2 : Hid (Fr NoBlk w1 w2) := hf2
  clear hsm hf2
  cases b with
  | true =>
    have HFZ : Hid (Fr NoBlk W w2) := HF1.out.trans HF2.out
    go_wp2_with fail
    go_ret
    exact ⟨rfl, HFZ.out⟩
  | false =>
  have HSML := Lib.hid (HSM.out rfl)
  clear HSM
  go_wp2_with fail
  refine (HGY.out _ HF2.out).mono ?_
  clear HGY
  rintro e w3 ⟨⟨b, rfl, hsm⟩, hf3⟩
  have HSM := Lib.hid hsm
  have HF3 : Hid (Fr NoBlk W w3) := HF1.out.trans (HF2.out.trans hf3)
  clear hsm hf3
  cases b with
  | true =>
    go_wp2_with fail
    go_ret
    exact ⟨rfl, HF3.out⟩
  | false =>
  have HSMY := Lib.hid (HSM.out rfl)
  clear HSM HF1 HF2
  have hwn : IntKind.i64.wrap (1 + bits .and .i64 reg 1) = (n : Int) := by
    have h : bits .and .i64 reg 1 = (qb : Int) := HQB.out.1
    rw [h, IntWalk.i64_in _ (by have := HQB.out.2; omega)]
    have := HQB.out.2
    omega
  go_wp2_with fail
  refine (@snew_any ⟨none⟩ w3 (fun k e => by cases e) (n : Int)).mono ?_
  rintro e w4 (⟨_, _, g, O, rfl, hs, hO, hf4⟩ | ⟨h, _⟩)
  rotate_left
  · exact absurd ⟨by have := HN3.out; omega, by have := HN3.out; omega⟩ h
  rw [Int.toNat_natCast] at hs
  have HS4 : Hid (@Store ⟨none⟩ w4 g O n []) := hs
  have HF4 : Hid (Fr NoBlk W w4 ∧ ∀ b, O b → W.heap.size ≤ b) := ⟨HF3.out.trans hf4, fun b hb => Nat.le_trans HF3.out.size (hO b hb)⟩
  clear hs hO hf4
  go_wp2_with fail
  refine (@rnew_any ⟨none⟩ w4 (fun k e => by cases e) n HN3.out).mono ?_
  rintro e w5 ⟨gm, OM, rfl, hrs, hf5⟩
  have HP4 : Hid (Pair W w5 g gm n []) := @pair_new ⟨none⟩ _ _ _ _ _ _ _ _ HS4.out HF4.out.2 HF4.out.1 hrs hf5
  clear hrs hf5 HS4 HF4 HF3
  go_wp2_with fail
  go_loopw [42] (fun z wr => ∃ k : Nat, z = .int .i64 (k : Int) ∧ k ≤ N ∧ Hid (∃ rs, Pair W wr g gm n rs ∧ Lim k rs ∧ Good n rs ∧ Homes n rs)) (fun z _ => N - (intOf z).toNat)
  case atStart => exact ⟨0, rfl, Nat.zero_le _, [], HP4.out, Lim.nil, (fun z hz => by cases hz), (fun z hz => by cases hz)⟩
  case round =>
    obtain ⟨k, rfl, hk, HI⟩ := hrel
    have hNs : N ≤ 100 := by have h1 := HSML.out.n; have h2 := HNN.out; omega
    have hw2 : IntKind.i64.wrap ((k : Int) + 1) = ((k + 1 : Nat) : Int) := by rw [IntWalk.i64_in _ (by omega)]; omega
    by_cases hlt : k < N
    · obtain ⟨x, hx⟩ : ∃ x, xs[k]? = some x := ⟨_, List.getElem?_eq_getElem (by have := HNN.out; omega)⟩
      have hxs := HSML.out.o x (List.mem_of_getElem? hx)
      obtain ⟨ra, htr, hla, hgd, hhm⟩ := HI.out
      have hfW : Fr NoBlk W wr := by obtain ⟨_, _, o, h⟩ := htr; exact @PairS.fr ⟨o⟩ _ _ _ _ _ _ _ _ _ h
      obtain ⟨b, o, hA, c0, c1, c2, c4⟩ := (HR.out.1.nofr hfW).opn hx
      have hin := HR.out.2.1 x (List.mem_of_getElem? hx)
      subst hA
      obtain ⟨wa, hwa⟩ : ∃ w, w = wr.alloc (.cells (opa x) 33) := ⟨_, rfl⟩
      have hfa : Fr NoBlk wr wa := by rw [hwa]; exact (Fr.refl _ _).alloc _
      have HDO : Hid (Calls Try.prog 14 #[.pointer (some ⟨g, 0, none⟩), .pointer (some ⟨gm, 0, none⟩), .agg (opa x)] wa fun e w' => (∃ z, e = .returned z) ∧ (∃ rs, Pair W w' g gm n rs ∧ Lim (k + 1) rs ∧ Good n rs ∧ Homes n rs)) := by
        refine (do_keep W wr wa g gm n k ra htr hfa hla (by omega) x hin.1.1 hxs).mono ?_
        rintro e w' ⟨he, hp, hl, _⟩
        exact ⟨⟨_, he⟩, _, hp, hl, hgd.step x, hhm.step HN3.out.1 x⟩
      have HBW : Hid (Bk wa wr.heap.size 33 (opa x)) := by show Bk _ _ _ _; rw [hwa]; exact Bk.new _ _ _
      have HWA := Lib.hid hwa
      clear hx hxs htr hla hgd hhm hin hwa hfa HI hfW
      obtain ⟨kind, no, name, ⟨va, vc, vb⟩⟩ := x
      unfold opa at HWA HDO HBW
      unfold st at c2 HWA HDO HBW
      unfold sl at c4 HWA HDO HBW
      dsimp only at c0 c1 c2 c4 HWA HDO HBW
      obtain ⟨vl, hvl⟩ : ∃ vl, vl = vb.length := ⟨_, rfl⟩
      rw [← hvl] at c4 HWA HDO HBW
      clear hvl
      obtain ⟨pb, hpb⟩ : ∃ pb, pb = wr.heap.size := ⟨_, rfl⟩
      rw [← hpb] at HBW
      go_upto_region 12 with fail
      rw [← HWA.out, ← hpb]
      have b0 : wa.cell? ⟨pb, 0, none⟩ = some (.int .i64 kind) := HBW.out.cell 0
      have b1 : wa.cell? ⟨pb, 1, none⟩ = some (.int .i64 no) := HBW.out.cell 1
      have b2 : wa.cell? ⟨pb, 2, none⟩ = some (.string (bstr name)) := HBW.out.cell 2
      have b3 : wa.cell? ⟨pb, 3, none⟩ = some (.slice va vl vc) := HBW.out.cell 3
      clear HWA hpb c0 c1 c2 c4
      go_wp2_with fail
      refine HDO.out.mono ?_
      clear HDO
      rintro e w5 ⟨⟨z5, rfl⟩, h5⟩
      have HI5 := Lib.hid h5
      clear h5
      go_wp2_with fail
      go_roundw
      case rel => exact ⟨k + 1, by go_num, by omega, HI5⟩
      case measure => simp [intOf]; omega
    · obtain ⟨rs, ⟨O5, OM5, o5, hpr⟩, hlm, hgd, hhm⟩ := HI.out
      obtain ⟨w4, hw4⟩ : ∃ w0, w0 = wr := ⟨_, rfl⟩
      subst hw4
      have hsg : @Store ⟨none⟩ w4 g O5 n rs := (@PairS.st ⟨o5⟩ _ _ _ _ _ _ _ _ _ hpr).none_
      have hrg : @RSt ⟨none⟩ w4 W.heap.size gm OM5 n rs := (@PairS.rst ⟨o5⟩ _ _ _ _ _ _ _ _ _ hpr).none_
      have hlen : rs.length ≤ 100 := by have := hlm.1; omega
      have HPR : Hid (@PairS ⟨none⟩ W w4 g gm n rs rs O5 OM5) := @PairS.mk ⟨none⟩ _ _ _ _ _ _ _ _ _ hsg hrg (@PairS.new ⟨o5⟩ _ _ _ _ _ _ _ _ _ hpr) (@PairS.apart ⟨o5⟩ _ _ _ _ _ _ _ _ _ hpr) (@PairS.fr ⟨o5⟩ _ _ _ _ _ _ _ _ _ hpr)
      have HLM : Hid (rs.length ≤ 100 ∧ Lim (100 + 0) rs ∧ (∀ x ∈ rs, GoodRow n x) ∧ (∀ x ∈ rs, x.2.val.length ≤ 1000000000) ∧ ∀ x ∈ rs, x.1.length ≤ 500 ∧ x.2.val.length ≤ 500) := ⟨hlen, hlm.le (by omega), good_rows hgd hhm hlm (by omega), hlm.val, fun x hx => ⟨(hlm.2 x hx).2.2, (hlm.2 x hx).1⟩⟩
      have HCL := Lib.hid (@sclone_any ⟨none⟩ w4 g O5 n rs hsg)
      clear hpr hsg hrg hlm hgd hhm hlen HI hw2 hwn HP4
      go_wp2_with fail
      refine HCL.out.mono ?_
      clear HCL
      rintro e w5 ⟨gc, OC, rfl, hsc, hOC, hf5⟩
      obtain ⟨lo, hlo⟩ : ∃ x, x = w5.heap.size := ⟨_, rfl⟩
      have HCC : Hid (@Store ⟨none⟩ w5 gc OC n rs ∧ (∀ b, OC b → w4.heap.size ≤ b) ∧ Fr NoBlk w4 w5 ∧ lo = w5.heap.size) := ⟨hsc, hOC, hf5, hlo⟩
      have HRW := Lib.hid (@srows_any ⟨none⟩ w5 g O5 n rs (@Store.nofr ⟨none⟩ _ _ _ _ _ _ (@PairS.st ⟨none⟩ _ _ _ _ _ _ _ _ _ HPR.out) hf5) (by have := HLM.out.1; omega) HLM.out.2.2.2.1)
      clear hsc hOC hf5 hlo
      go_wp2_with fail
      refine HRW.out.mono ?_
      clear HRW
      rintro e w6 ⟨A2, e2, us, rfl, ho2, hrow2, hf6⟩
      obtain ⟨m2, hm2⟩ : ∃ m, m = rs.length := ⟨_, rfl⟩
      rw [← hm2] at ho2 ⊢
      have HO2 : Hid (w6.ownsRow lo 61 5 (.slice A2 m2 e2) m2 (itsR us) ∧ RowsOf w6 lo us rs ∧ us.length = m2 ∧ m2 = rs.length) := by rw [HCC.out.2.2.2]; exact ⟨ho2, hrow2, by rw [hm2, hrow2.1], hm2⟩
      have HF6 : Hid (Fr NoBlk w5 w6) := hf6
      have HSN := Lib.hid (@ssnap_any ⟨none⟩ w6 g O5 n rs (@Store.nofr ⟨none⟩ _ _ _ _ _ _ (@PairS.st ⟨none⟩ _ _ _ _ _ _ _ _ _ HPR.out) (HCC.out.2.2.1.trans hf6)) (by have := HLM.out.1; omega) HLM.out.2.2.2.2)
      clear ho2 hrow2 hf6 hm2
      go_wp2_with fail
      refine HSN.out.mono ?_
      clear HSN
      rintro e w7 ⟨v3, rfl, hn3⟩
      obtain ⟨A3, c3, rfl, _, hz3⟩ := own_form hn3.own
      obtain ⟨sb, hsb⟩ : ∃ l, l = snapB n rs := ⟨_, rfl⟩
      rw [← hsb] at hn3 ⊢
      obtain ⟨m3, hm3⟩ : ∃ m, m = sb.length := ⟨_, rfl⟩
      rw [← hm3]
      have hn3o := hn3.own
      rw [← hm3] at hn3o
      have HN3D : Hid (w7.ownsRow lo 5 1 (.slice A3 m3 c3) m3 (cb sb) ∧ (A3 = none → c3 = 0) ∧ sb = snapB n rs ∧ m3 = sb.length) := ⟨own_base hn3o (by rw [HCC.out.2.2.2]; exact HF6.out.size), hz3, hsb, hm3⟩
      have HF7 : Hid (Fr NoBlk w5 w7 ∧ Fr NoBlk w6 w7) := ⟨HF6.out.trans hn3.fr, hn3.fr⟩
      have HRC := Lib.hid (@srows_any ⟨none⟩ w7 gc OC n rs (@Store.nofr ⟨none⟩ _ _ _ _ _ _ HCC.out.1 (HF6.out.trans hn3.fr)) (by have := HLM.out.1; omega) HLM.out.2.2.2.1)
      clear hn3 hn3o hz3 hsb hm3
      go_wp2_with fail
      refine HRC.out.mono ?_
      clear HRC
      rintro e w8 ⟨A4, e4, ts, rfl, ho4, hrow4, hf8⟩
      have HSM : Hid (Calls Try.prog 19 #[.slice A4 m2 e4, .slice A2 m2 e2] w8 fun e w' => e = .returned (.bool true) ∧ Fr NoBlk w8 w') := by
        have h := @same_yes ⟨none⟩ w8 A4 e4 ts A2 e2 us rs (Rd.of_ownW ho4) (Rd.nofr (Rd.of_ownW HO2.out.1) (HF7.out.2.trans hf8)) (@RowsOf.told ⟨none⟩ _ _ _ _ hrow4 fun k e => by cases e) (@Told.nofr ⟨none⟩ _ _ _ _ (@RowsOf.told ⟨none⟩ _ _ _ _ HO2.out.2.1 fun k e => by cases e) (HF7.out.2.trans hf8)) (by have := HLM.out.1; omega)
        rw [hrow4.1, HO2.out.2.2.1, ← HO2.out.2.2.2] at h
        exact h
      rw [← HO2.out.2.2.2]
      have HF8 : Hid (Fr NoBlk w7 w8) := hf8
      clear ho4 hrow4 hf8
      go_wp2_with fail
      refine HSM.out.mono ?_
      clear HSM
      rintro e w9 ⟨rfl, hf9⟩
      have HF9 : Hid (Fr NoBlk w7 w9) := HF8.out.trans hf9
      have HQD : Hid (Quad W w7 w9 lo gc gm g n rs rs rs) := by
        have h45 := HCC.out.2.2.1
        have h59 := HF7.out.1.trans HF9.out
        have hs := @PairS.st ⟨none⟩ _ _ _ _ _ _ _ _ _ HPR.out
        have hr := @PairS.rst ⟨none⟩ _ _ _ _ _ _ _ _ _ HPR.out
        have k1 : ∀ b, O5 b → b < w4.heap.size := fun b hb => @Store.lt ⟨none⟩ _ _ _ _ _ hs b hb
        have k2 : ∀ b, OM5 b → b < w4.heap.size := fun b hb => by
          obtain ⟨E, hE⟩ : ∃ E : Ex, RSt w4 W.heap.size gm OM5 n rs := ⟨⟨none⟩, hr⟩
          exact (hE.lt hb).2
        have k3 : ∀ b, OC b → b < lo := fun b hb => by rw [HCC.out.2.2.2]; exact @Store.lt ⟨none⟩ _ _ _ _ _ HCC.out.1 b hb
        have k4 := h45.size
        have k5 := HCC.out.2.2.2
        have k6 := (@PairS.fr ⟨none⟩ _ _ _ _ _ _ _ _ _ HPR.out)
        have k7 := k6.size
        refine ⟨OC, OM5, none, O5, @PairS.mk ⟨none⟩ _ _ _ _ _ _ _ _ _ (@Store.nofr ⟨none⟩ _ _ _ _ _ _ HCC.out.1 h59) (hr.nofrN (h45.trans h59)) (fun b hb => by have := HCC.out.2.1 b hb; omega) (fun b hb hm => by have := HCC.out.2.1 b hb; have := k2 b hm; omega) (k6.trans (h45.trans h59)), @Store.nofr ⟨none⟩ _ _ _ _ _ _ hs (h45.trans h59), fun b hb => ⟨fun e => by have := k1 b hb; have := HCC.out.2.1 b e; omega, @PairS.apart ⟨none⟩ _ _ _ _ _ _ _ _ _ HPR.out b hb⟩, @PairS.new ⟨none⟩ _ _ _ _ _ _ _ _ _ HPR.out, fun b hb => .inl (hb.elim (k3 b) fun e => by have := k2 b e; omega), HF9.out.mono fun _ _ e => e.elim⟩
      clear hf9 HF8 HF9 HPR HCC
      go_wp2_with fail
      go_loopw [68] (fun z wr => ∃ k : Nat, z = .int .i64 (k : Int) ∧ k ≤ M ∧ Hid (∃ rc rm, Quad W w7 wr lo gc gm g n rc rm rs ∧ Lim (100 + k) rc ∧ Lim (100 + k) rm)) (fun z _ => M - (intOf z).toNat)
      case atStart => exact ⟨0, rfl, Nat.zero_le _, _, _, HQD.out, HLM.out.2.1, HLM.out.2.1⟩
      case round =>
        obtain ⟨k, rfl, hk, HI⟩ := hrel
        have hNs : M ≤ 100 := by have h1 := HSMY.out.n; have h2 := HMM.out; omega
        have hw2 : IntKind.i64.wrap ((k : Int) + 1) = ((k + 1 : Nat) : Int) := by rw [IntWalk.i64_in _ (by omega)]; omega
        by_cases hlt : k < M
        · obtain ⟨x, hx⟩ : ∃ x, ys[k]? = some x := ⟨_, List.getElem?_eq_getElem (by have := HMM.out; omega)⟩
          have hxs := HSMY.out.o x (List.mem_of_getElem? hx)
          obtain ⟨ra, rm, htr, hla, hlm⟩ := HI.out
          obtain ⟨b, o, hA, c0, c1, c2, c4⟩ := (HRY.out.1.nofr htr.trio.fr).opn hx
          have hin := HRY.out.2.1 x (List.mem_of_getElem? hx)
          subst hA
          obtain ⟨wa, hwa⟩ : ∃ w, w = wr.alloc (.cells (opa x) 33) := ⟨_, rfl⟩
          have hfa : Fr NoBlk wr wa := by rw [hwa]; exact (Fr.refl _ _).alloc _
          have HDO : Hid (Calls Try.prog 14 #[.pointer (some ⟨gc, 0, none⟩), .pointer (some ⟨gm, 0, none⟩), .agg (opa x)] wa fun e w' => (∃ z, e = .returned z) ∧ (∃ rc rm, Quad W w7 w' lo gc gm g n rc rm rs ∧ Lim (100 + (k + 1)) rc ∧ Lim (100 + (k + 1)) rm)) := by
            refine (do_quad W w7 wa lo gc gm g n (100 + k) ra rm rs (htr.nofr hfa) hla hlm (by omega) x hin.1.1 hxs).mono ?_
            rintro e w' ⟨he, ht⟩
            exact ⟨he, _, _, ht, hla.step x hxs, hlm.step x hxs⟩
          have HBW : Hid (Bk wa wr.heap.size 33 (opa x)) := by show Bk _ _ _ _; rw [hwa]; exact Bk.new _ _ _
          have HWA := Lib.hid hwa
          clear hx hxs htr hla hlm hin hwa hfa HI
          obtain ⟨kind, no, name, ⟨va, vc, vb⟩⟩ := x
          unfold opa at HWA HDO HBW
          unfold st at c2 HWA HDO HBW
          unfold sl at c4 HWA HDO HBW
          dsimp only at c0 c1 c2 c4 HWA HDO HBW
          obtain ⟨vl, hvl⟩ : ∃ vl, vl = vb.length := ⟨_, rfl⟩
          rw [← hvl] at c4 HWA HDO HBW
          clear hvl
          obtain ⟨pb, hpb⟩ : ∃ pb, pb = wr.heap.size := ⟨_, rfl⟩
          rw [← hpb] at HBW
          go_upto_region 20 with fail
          rw [← HWA.out, ← hpb]
          have b0 : wa.cell? ⟨pb, 0, none⟩ = some (.int .i64 kind) := HBW.out.cell 0
          have b1 : wa.cell? ⟨pb, 1, none⟩ = some (.int .i64 no) := HBW.out.cell 1
          have b2 : wa.cell? ⟨pb, 2, none⟩ = some (.string (bstr name)) := HBW.out.cell 2
          have b3 : wa.cell? ⟨pb, 3, none⟩ = some (.slice va vl vc) := HBW.out.cell 3
          clear HWA hpb c0 c1 c2 c4
          go_wp2_with fail
          refine HDO.out.mono ?_
          clear HDO
          rintro e w5 ⟨⟨z5, rfl⟩, h5⟩
          have HI5 := Lib.hid h5
          clear h5
          go_wp2_with fail
          go_roundw
          case rel => exact ⟨k + 1, by go_num, by omega, HI5⟩
          case measure => simp [intOf]; omega
        · obtain ⟨rc, rm, hq, hlc, hlm⟩ := HI.out
          have hfl : Fr (fun b => b < lo) w7 wr := by obtain ⟨_, _, _, _, _, _, _, _, _, h⟩ := hq; exact h
          obtain ⟨_, OB, hsg⟩ := hq.trio.both
          have HFW := Lib.hid hq.trio.fr
          have HSG : Hid (@Store ⟨none⟩ wr g OB n rs) := hsg
          have HOD : Hid (wr.ownsRow lo 5 1 (.slice A3 m3 c3) m3 (cb sb)) := own_fr HN3D.out.1 hfl fun k hk e => by have := (own_blk HN3D.out.1 hk).1; omega
          have HOR : Hid (wr.ownsRow lo 61 5 (.slice A2 m2 e2) m2 (itsR us) ∧ RowsOf wr lo us rs) := ⟨own_fr (own_fr HO2.out.1 HF7.out.2 fun _ _ e => e) hfl fun k hk e => by have := (own_blk HO2.out.1 hk).1; omega, rows_hi (RowsOf.fr HO2.out.2.1 HF7.out.2 fun _ _ e => e) hfl⟩
          have hsl : sb.length ≤ 190000 := by
            have h1 := num_len n (by have := HN3.out; omega)
            have h2 := num_len rs.length (by have := HLM.out.1; omega)
            have h3 := rows_len rs fun x hx => ⟨(HLM.out.2.2.2.2 x hx).1, (HLM.out.2.2.2.2 x hx).2, (HLM.out.2.2.1 x hx).2.2.2.2⟩
            have h4 := HLM.out.1
            rw [HN3D.out.2.2.1]
            unfold snapB
            rw [List.length_append, List.length_append]
            omega
          have hup : UpI Op.bytesLess rs := @Store.up ⟨none⟩ _ _ _ _ _ hsg
          have HDEC : Hid (dec n sb = some rs) := by rw [HN3D.out.2.2.1]; exact dec_snap HN3.out.2 HLM.out.2.2.1 hup (by have := HLM.out.1; omega)
          have HRS : Hid (Calls Try.prog 26 #[.slice A3 m3 c3, .int .i64 (n : Int)] wr (@RestorePost ⟨none⟩ wr (n : Int) sb)) := @restore_any ⟨none⟩ wr (fun k e => by cases e) A3 m3 c3 sb HN3D.out.2.2.2 (by have h := HOD.out; rw [HN3D.out.2.2.2] at h; exact Rd.of_own h) HN3D.out.2.1 hsl (n : Int)
          have hwn : IntKind.i64.wrap (1 + bits .and .i64 reg 1) = (n : Int) := by
            have h : bits .and .i64 reg 1 = (qb : Int) := HQB.out.1
            rw [h, IntWalk.i64_in _ (by have := HQB.out.2; omega)]
            have := HQB.out.2
            omega
          clear hq hlc hlm hfl hsg hsl hup HI hw2 HQD
          go_wp2_with fail
          refine HRS.out.mono ?_
          clear HRS hwn
          rintro e wz (⟨gr, OR, rs', _, _, hd, rfl, hsr, hOR, hfz⟩ | ⟨h, _⟩)
          rotate_left
          · rcases h with h | h
            · exact absurd ⟨by have := HN3.out; omega, by have := HN3.out; omega⟩ h
            · rw [Int.toNat_natCast, HDEC.out] at h
              cases h
          rw [Int.toNat_natCast] at hd hsr
          obtain rfl : rs' = rs := by rw [HDEC.out] at hd; injection hd with hd; exact hd.symm
          have HROWS : Hid (∀ gx OX, @Store ⟨none⟩ wz gx OX n rs' → ∀ w', Fr NoBlk wz w' → Calls Try.prog 18 #[.pointer (some ⟨gx, 0, none⟩)] w' fun e w1 => ∃ A5 e5, e = .returned (.slice A5 m2 e5) ∧ Fr NoBlk w' w1 ∧ ∀ w2, Fr NoBlk w1 w2 → Calls Try.prog 19 #[.slice A5 m2 e5, .slice A2 m2 e2] w2 fun e w3 => e = .returned (.bool true) ∧ Fr NoBlk w2 w3) := fun gx OX hgx w' hf => by
            refine (@srows_any ⟨none⟩ w' gx OX n rs' (@Store.nofr ⟨none⟩ _ _ _ _ _ _ hgx hf) (by have := HLM.out.1; omega) HLM.out.2.2.2.1).mono ?_
            rintro e w1 ⟨A5, e5, ts, rfl, ho5, hrow5, hf1⟩
            refine ⟨A5, e5, by rw [← HO2.out.2.2.2], hf1, fun w2 hf2 => ?_⟩
            have h02 := hfz.trans (hf.trans (hf1.trans hf2))
            have h := @same_yes ⟨none⟩ w2 A5 e5 ts A2 e2 us rs' (Rd.nofr (Rd.of_ownW ho5) hf2) (Rd.nofr (Rd.of_ownW HOR.out.1) h02) (@Told.nofr ⟨none⟩ _ _ _ _ (@RowsOf.told ⟨none⟩ _ _ _ _ hrow5 fun k e => by cases e) hf2) (@Told.nofr ⟨none⟩ _ _ _ _ (@RowsOf.told ⟨none⟩ _ _ _ _ HOR.out.2 fun k e => by cases e) h02) (by have := HLM.out.1; omega)
            rw [hrow5.1, HO2.out.2.2.1, ← HO2.out.2.2.2] at h
            exact h
          have HRA := Lib.hid (HROWS.out g OB (@Store.nofr ⟨none⟩ _ _ _ _ _ _ HSG.out hfz))
          have HRB := Lib.hid (HROWS.out gr OR hsr)
          have HSNP : Hid (∀ w', Fr NoBlk wz w' → Calls Try.prog 23 #[.pointer (some ⟨gr, 0, none⟩)] w' fun e w2 => ∃ v', e = .returned v' ∧ New w' w2 v' sb) := fun w' hf => by
            rw [HN3D.out.2.2.1]
            exact @ssnap_any ⟨none⟩ w' gr OR n rs' (@Store.nofr ⟨none⟩ _ _ _ _ _ _ hsr hf) (by have := HLM.out.1; omega) HLM.out.2.2.2.2
          have HQZ : Hid (∀ w', Fr NoBlk wz w' → (convert 31 9 (.slice A3 m3 c3)).run Try.prog w' = .ok (.string (bstr sb)) w') := fun w' hf => strBs w' A3 m3 c3 sb HN3D.out.2.2.2 (by have h := HOD.out; rw [HN3D.out.2.2.2] at h; exact (Rd.of_own h).nofr (hfz.trans hf))
          have HSK : Hid (∀ w' : World, Fr NoBlk wz w' → True) := fun _ _ => trivial
          have HFZ0 : Hid (Fr NoBlk W wz) := HFW.out.trans hfz
          have hqq : ((bstr sb).toList == (bstr sb).toList) = true := eq_bstr rfl
          clear hd hsr hOR hfz HROWS
          go_wp2_with fail
          refine wp_region_held_drew (S := fun w' => Fr NoBlk wz w') (by kernel_rfl) ((Fr.refl _ _).drew) (fun hHeld => ?_)
          refine wpAnyH_take (i := 0) (oi := ⟨some 85, _, _, _, _, _⟩) (v := ?_) rfl (by kernel_rfl) (by kernel_rfl) (by kernel_rfl) (fun _ _ _ h => h) (Or.inl ⟨by rfl, ?_⟩) (by assumption) ?_
          rotate_left 1
          · (intro w hSw; (try dsimp only at hSw); have y0 := HSK.out _ hSw; go_simp) <;> (with_reducible rfl)
          try simp only [Act.put, List.setIfInBounds_toArray, List.set_cons_zero, List.set_cons_succ]
          refine wpAnyH_take (i := 1) (oi := ⟨some 86, _, _, _, _, _⟩) (v := ?_) rfl (by kernel_rfl) (by kernel_rfl) (by kernel_rfl) (fun _ _ _ h => h) (Or.inl ⟨by rfl, ?_⟩) (by assumption) ?_
          rotate_left 1
          · (intro w hSw; (try dsimp only at hSw); have y0 := HSK.out _ hSw; go_simp) <;> (with_reducible rfl)
          try simp only [Act.put, List.setIfInBounds_toArray, List.set_cons_zero, List.set_cons_succ]
          refine wpAnyH_take (i := 2) (oi := ⟨some 87, _, _, _, _, _⟩) (v := ?_) rfl (by kernel_rfl) (by kernel_rfl) (by kernel_rfl) (fun _ _ _ h => h) (Or.inl ⟨by rfl, ?_⟩) (by assumption) ?_
          rotate_left 1
          · (intro w hSw; (try dsimp only at hSw); have y0 := HSK.out _ hSw; go_simp) <;> (with_reducible rfl)
          try simp only [Act.put, List.setIfInBounds_toArray, List.set_cons_zero, List.set_cons_succ]
          refine wpAnyH_take (i := 3) (oi := ⟨some 88, _, _, _, _, _⟩) (v := ?_) rfl (by kernel_rfl) (by kernel_rfl) (by kernel_rfl) (fun _ _ _ h => h) (Or.inl ⟨by rfl, ?_⟩) (by assumption) ?_
          rotate_left 1
          · (intro w hSw; (try dsimp only at hSw); have y0 := HSK.out _ hSw; go_simp) <;> (with_reducible rfl)
          try simp only [Act.put, List.setIfInBounds_toArray, List.set_cons_zero, List.set_cons_succ]
          refine wpAnyH_take (i := 4) (oi := ⟨some 89, _, _, _, _, _⟩) (v := ?_) rfl (by kernel_rfl) (by kernel_rfl) (by kernel_rfl) (fun _ _ _ h => h) (Or.inl ⟨by rfl, ?_⟩) (by assumption) ?_
          rotate_left 1
          · (intro w hSw; (try dsimp only at hSw); have y0 := HSK.out _ hSw; go_simp) <;> (with_reducible rfl)
          try simp only [Act.put, List.setIfInBounds_toArray, List.set_cons_zero, List.set_cons_succ]
          refine wpAnyH_take (i := 5) (oi := ⟨some 90, _, _, _, _, _⟩) (v := ?_) rfl (by kernel_rfl) (by kernel_rfl) (by kernel_rfl) (fun _ _ _ h => h) (Or.inl ⟨by rfl, ?_⟩) (by assumption) ?_
          rotate_left 1
          · (intro w hSw; (try dsimp only at hSw); have y0 := HSK.out _ hSw; go_simp) <;> (with_reducible rfl)
          try simp only [Act.put, List.setIfInBounds_toArray, List.set_cons_zero, List.set_cons_succ]
          refine wpAnyH_take (i := 6) (oi := ⟨some 91, _, _, _, _, _⟩) (v := ?_) rfl (by kernel_rfl) (by kernel_rfl) (by kernel_rfl) (fun _ _ _ h => h) (Or.inl ⟨by rfl, ?_⟩) (by assumption) ?_
          rotate_left 1
          · (intro w hSw; (try dsimp only at hSw); have y0 := HSK.out _ hSw; go_simp) <;> (with_reducible rfl)
          try simp only [Act.put, List.setIfInBounds_toArray, List.set_cons_zero, List.set_cons_succ]
          refine wpAnyH_take (i := 7) (oi := ⟨some 92, _, _, _, _, _⟩) (v := ?_) rfl (by kernel_rfl) (by kernel_rfl) (by kernel_rfl) (fun _ _ _ h => h) (Or.inl ⟨by rfl, ?_⟩) (by assumption) ?_
          rotate_left 1
          · (intro w hSw; (try dsimp only at hSw); have y0 := HSK.out _ hSw; go_simp) <;> (with_reducible rfl)
          try simp only [Act.put, List.setIfInBounds_toArray, List.set_cons_zero, List.set_cons_succ]
          refine wpAnyH_take (i := 9) (oi := ⟨some 94, _, _, _, _, _⟩) (v := ?_) rfl (by kernel_rfl) (by kernel_rfl) (by kernel_rfl) (fun _ _ _ h => h) (Or.inl ⟨by rfl, ?_⟩) (by assumption) ?_
          rotate_left 1
          · (intro w hSw; (try dsimp only at hSw); have y0 := HSK.out _ hSw; go_simp) <;> (with_reducible rfl)
          try simp only [Act.put, List.setIfInBounds_toArray, List.set_cons_zero, List.set_cons_succ]
          refine wpAnyH_ready (rs := [8]) (by kernel_rfl) (by simp) ?_
          refine AllReadyH.cons (o := ⟨some 93, _, _, _, _, _⟩) rfl (fun K hK => ?_) AllReadyH.nil
          go_simp
          go_at_call 18
          refine (HRA.out _ ((Fr.refl NoBlk wz).drew)).mono ?_
          rintro e w11 ⟨B1, d1, rfl, hf1, hs1⟩
          have HW1 : Hid (Fr NoBlk wz w11) := Fr.trans (((Fr.refl NoBlk wz).drew)) hf1
          have HN1 := Lib.hid hs1
          clear hf1 hs1
          refine hK.out _ _ ?_ (fun hHeld => ?_)
          · exact HW1.out
          clear hK K
          try simp only [Act.put, List.setIfInBounds_toArray, List.set_cons_zero, List.set_cons_succ]
          refine wpAnyH_ready (rs := [10]) (by kernel_rfl) (by simp) ?_
          refine AllReadyH.cons (o := ⟨some 95, _, _, _, _, _⟩) rfl (fun K hK => ?_) AllReadyH.nil
          go_simp
          go_at_call 19
          refine (HN1.out _ (Fr.refl _ _)).mono ?_
          rintro e w12 ⟨rfl, hfs⟩
          have HV1 : Hid (Fr NoBlk wz w12) := HW1.out.trans hfs
          clear hfs
          refine hK.out _ _ ?_ (fun hHeld => ?_)
          · exact HV1.out
          clear hK K
          try simp only [Act.put, List.setIfInBounds_toArray, List.set_cons_zero, List.set_cons_succ]
          refine wpAnyH_take (i := 11) (oi := ⟨some 96, _, _, _, _, _⟩) (v := ?_) rfl (by kernel_rfl) (by kernel_rfl) (by kernel_rfl) (fun _ _ _ h => h) (Or.inl ⟨by rfl, ?_⟩) (by assumption) ?_
          rotate_left 1
          · (intro w hSw; (try dsimp only at hSw); have y0 := HSK.out _ hSw; go_simp) <;> (with_reducible rfl)
          try simp only [Act.put, List.setIfInBounds_toArray, List.set_cons_zero, List.set_cons_succ]
          refine wpAnyH_take (i := 12) (oi := ⟨some 97, _, _, _, _, _⟩) (v := ?_) rfl (by kernel_rfl) (by kernel_rfl) (by kernel_rfl) (fun _ _ _ h => h) (Or.inl ⟨by rfl, ?_⟩) (by assumption) ?_
          rotate_left 1
          · (intro w hSw; (try dsimp only at hSw); have y0 := HSK.out _ hSw; go_simp) <;> (with_reducible rfl)
          try simp only [Act.put, List.setIfInBounds_toArray, List.set_cons_zero, List.set_cons_succ]
          refine wpAnyH_take (i := 13) (oi := ⟨some 98, _, _, _, _, _⟩) (v := ?_) rfl (by kernel_rfl) (by kernel_rfl) (by kernel_rfl) (fun _ _ _ h => h) (Or.inl ⟨by rfl, ?_⟩) (by assumption) ?_
          rotate_left 1
          · (intro w hSw; (try dsimp only at hSw); have y0 := HSK.out _ hSw; go_simp) <;> (with_reducible rfl)
          try simp only [Act.put, List.setIfInBounds_toArray, List.set_cons_zero, List.set_cons_succ]
          refine wpAnyH_take (i := 15) (oi := ⟨some 100, _, _, _, _, _⟩) (v := ?_) rfl (by kernel_rfl) (by kernel_rfl) (by kernel_rfl) (fun _ _ _ h => h) (Or.inl ⟨by rfl, ?_⟩) (by assumption) ?_
          rotate_left 1
          · (intro w hSw; (try dsimp only at hSw); have y0 := HSK.out _ hSw; go_simp) <;> (with_reducible rfl)
          try simp only [Act.put, List.setIfInBounds_toArray, List.set_cons_zero, List.set_cons_succ]
          refine wpAnyH_ready (rs := [14]) (by kernel_rfl) (by simp) ?_
          refine AllReadyH.cons (o := ⟨some 99, _, _, _, _, _⟩) rfl (fun K hK => ?_) AllReadyH.nil
          go_simp
          go_at_call 18
          refine (HRB.out _ HV1.out).mono ?_
          rintro e w13 ⟨B2, d2, rfl, hf2, hs2⟩
          have HW2 : Hid (Fr NoBlk wz w13) := Fr.trans (HV1.out) hf2
          have HN2 := Lib.hid hs2
          clear hf2 hs2
          refine hK.out _ _ ?_ (fun hHeld => ?_)
          · exact HW2.out
          clear hK K
          try simp only [Act.put, List.setIfInBounds_toArray, List.set_cons_zero, List.set_cons_succ]
          refine wpAnyH_ready (rs := [16]) (by kernel_rfl) (by simp) ?_
          refine AllReadyH.cons (o := ⟨some 101, _, _, _, _, _⟩) rfl (fun K hK => ?_) AllReadyH.nil
          go_simp
          go_at_call 19
          refine (HN2.out _ (Fr.refl _ _)).mono ?_
          rintro e w14 ⟨rfl, hfs⟩
          have HV2 : Hid (Fr NoBlk wz w14) := HW2.out.trans hfs
          clear hfs
          refine hK.out _ _ ?_ (fun hHeld => ?_)
          · exact HV2.out
          clear hK K
          try simp only [Act.put, List.setIfInBounds_toArray, List.set_cons_zero, List.set_cons_succ]
          refine wpAnyH_take (i := 17) (oi := ⟨some 102, _, _, _, _, _⟩) (v := ?_) rfl (by kernel_rfl) (by kernel_rfl) (by kernel_rfl) (fun _ _ _ h => h) (Or.inl ⟨by rfl, ?_⟩) (by assumption) ?_
          rotate_left 1
          · (intro w hSw; (try dsimp only at hSw); have y0 := HSK.out _ hSw; go_simp) <;> (with_reducible rfl)
          try simp only [Act.put, List.setIfInBounds_toArray, List.set_cons_zero, List.set_cons_succ]
          refine wpAnyH_take (i := 18) (oi := ⟨some 103, _, _, _, _, _⟩) (v := ?_) rfl (by kernel_rfl) (by kernel_rfl) (by kernel_rfl) (fun _ _ _ h => h) (Or.inl ⟨by rfl, ?_⟩) (by assumption) ?_
          rotate_left 1
          · (intro w hSw; (try dsimp only at hSw); have y0 := HSK.out _ hSw; go_simp) <;> (with_reducible rfl)
          try simp only [Act.put, List.setIfInBounds_toArray, List.set_cons_zero, List.set_cons_succ]
          refine wpAnyH_take (i := 19) (oi := ⟨some 104, _, _, _, _, _⟩) (v := ?_) rfl (by kernel_rfl) (by kernel_rfl) (by kernel_rfl) (fun _ _ _ h => h) (Or.inl ⟨by rfl, ?_⟩) (by assumption) ?_
          rotate_left 1
          · (intro w hSw; (try dsimp only at hSw); have y0 := HSK.out _ hSw; go_simp) <;> (with_reducible rfl)
          try simp only [Act.put, List.setIfInBounds_toArray, List.set_cons_zero, List.set_cons_succ]
          refine wpAnyH_take (i := 22) (oi := ⟨some 107, _, _, _, _, _⟩) (v := ?_) rfl (by kernel_rfl) (by kernel_rfl) (by kernel_rfl) (fun _ _ _ h => h) (Or.inl ⟨by rfl, ?_⟩) (by assumption) ?_
          rotate_left 1
          · (intro w hSw; (try dsimp only at hSw); have y0 := HSK.out _ hSw; go_simp) <;> (with_reducible rfl)
          try simp only [Act.put, List.setIfInBounds_toArray, List.set_cons_zero, List.set_cons_succ]
          refine wpAnyH_take (i := 23) (oi := ⟨some 108, _, _, _, _, _⟩) (v := ?_) rfl (by kernel_rfl) (by kernel_rfl) (by kernel_rfl) (fun _ _ _ h => h) (Or.inl ⟨by rfl, ?_⟩) (by assumption) ?_
          rotate_left 1
          · (intro w hSw; (try dsimp only at hSw); have y0 := HQZ.out _ hSw; go_simp) <;> (with_reducible rfl)
          try simp only [Act.put, List.setIfInBounds_toArray, List.set_cons_zero, List.set_cons_succ]
          refine wpAnyH_ready (rs := [20]) (by kernel_rfl) (by simp) ?_
          refine AllReadyH.cons (o := ⟨some 105, _, _, _, _, _⟩) rfl (fun K hK => ?_) AllReadyH.nil
          go_simp
          go_at_call 23
          refine (HSNP.out _ HV2.out).mono ?_
          rintro e w15 ⟨v5, rfl, hn5⟩
          obtain ⟨A5, c5, rfl, _, _⟩ := own_form hn5.own
          have HF15 : Hid (Fr NoBlk wz w15) := HV2.out.trans hn5.fr
          have HR5 : Hid (Rd w15 A5 (cb sb)) := Rd.of_own hn5.own
          rw [← HN3D.out.2.2.2]
          clear hn5
          have HQ5 : Hid (∀ w', Fr NoBlk w15 w' → (convert 31 9 (.slice A5 m3 c5)).run Try.prog w' = .ok (.string (bstr sb)) w') := fun w' hf => strBs w' A5 m3 c5 sb HN3D.out.2.2.2 (HR5.out.nofr hf)
          refine hK.out _ _ ?_ (fun hHeld => ?_)
          · exact HF15.out
          clear hK K
          try simp only [Act.put, List.setIfInBounds_toArray, List.set_cons_zero, List.set_cons_succ]
          refine wpAnyH_more (S' := fun w' => Fr NoBlk w15 w') (fun _ h => HF15.out.trans h) _ _ _ _ ?_
          clear hHeld
          have hHeld : (fun w' => Fr NoBlk w15 w') w15 := Fr.refl _ _
          refine wpAnyH_take (i := 21) (oi := ⟨some 106, _, _, _, _, _⟩) (v := ?_) rfl (by kernel_rfl) (by kernel_rfl) (by kernel_rfl) (fun _ _ _ h => h) (Or.inl ⟨by rfl, ?_⟩) (by assumption) ?_
          rotate_left 1
          · (intro w hSw; (try dsimp only at hSw); have y0 := HQ5.out _ hSw; go_simp) <;> (with_reducible rfl)
          try simp only [Act.put, List.setIfInBounds_toArray, List.set_cons_zero, List.set_cons_succ]
          refine wpAnyH_take (i := 24) (oi := ⟨some 109, _, _, _, _, _⟩) (v := ?_) rfl (by kernel_rfl) (by kernel_rfl) (by kernel_rfl) (fun _ _ _ h => h) (Or.inl ⟨by rfl, ?_⟩) (by assumption) ?_
          rotate_left 1
          · (intro w hSw; (try dsimp only at hSw); have y0 := HQ5.out _ hSw; go_simp) <;> (with_reducible rfl)
          try simp only [Act.put, List.setIfInBounds_toArray, List.set_cons_zero, List.set_cons_succ]
          refine wpAnyH_take (i := 25) (oi := ⟨some 110, _, _, _, _, _⟩) (v := ?_) rfl (by kernel_rfl) (by kernel_rfl) (by kernel_rfl) (fun _ _ _ h => h) (Or.inl ⟨by rfl, ?_⟩) (by assumption) ?_
          rotate_left 1
          · (intro w hSw; (try dsimp only at hSw); have y0 := HQ5.out _ hSw; go_simp) <;> (with_reducible rfl)
          try simp only [Act.put, List.setIfInBounds_toArray, List.set_cons_zero, List.set_cons_succ]
          refine wpAnyH_take (i := 26) (oi := ⟨some 6, _, _, _, _, _⟩) (v := ?_) rfl (by kernel_rfl) (by kernel_rfl) (by kernel_rfl) (fun _ _ _ h => h) (Or.inl ⟨by rfl, ?_⟩) (by assumption) ?_
          rotate_left 1
          · (intro w hSw; (try dsimp only at hSw); have y0 := HQ5.out _ hSw; go_simp) <;> (with_reducible rfl)
          try simp only [Act.put, List.setIfInBounds_toArray, List.set_cons_zero, List.set_cons_succ]
          refine wpAnyH_done (by kernel_rfl) ?_ _
          have HFZ : Hid (Fr NoBlk W w15) := HFZ0.out.trans HF15.out
          go_wp2_with fail
          go_ret
          exact ⟨rfl, HFZ.out⟩

theorem paramsOk : ∀ t ∈ Try.f4.params.toList, Try.prog.readableRec t = true ∧ t < Try.prog.types.size := fun t ht => by
  have h := List.all_eq_true.1 (show (Try.f4.params.toList.all fun t => Try.prog.readableRec t && decide (t < Try.prog.types.size)) = true by kernel_rfl) t ht
  simpa using h

set_option maxRecDepth 100000 in
theorem lifted (os : Os) (started : os.Started) (H : Type) (enc : TypeId × Value → H) :
    ReturnsInHanded {} Try.checked os 4 .any (Rows.storeClonesSpec.pre6 enc Try.prog Try.f4 Rows.storeClonesRow.domain false) (Rows.storeClonesSpec.post enc Try.prog Try.f4 false true false false) := by
  refine returnsInHanded_of_change (C := Try.checked) own started (by kernel_rfl) Try.func4
    (ChangeSpec.witness6 (enc := enc) (C := Try.checked) false ⟨#[], #[.slice none 0 0, .slice none 0 0, .int .i64 0], []⟩ 8 (by kernel_rfl) (by kernel_rfl) (by kernel_rfl) (by kernel_rfl)) ?_
  intro W base args ds gs before hval0 hW _ _
  have hval : ∀ (j : Nat) t v, Try.f4.params[j]? = some t → args[j]? = some v → Value.okWide Try.prog W .any base t v := hval0
  have hW' := hW
  obtain ⟨p, q, hA0, hV, rfl, _, _⟩ := hW
  have hA : DataW.TrodAll enc Try.prog W 0 (fun _ => true) true Try.f4.params.toList args.toList ds p := hA0
  rw [Try.params4] at hA hval
  obtain ⟨v0, vs0, d0, ds0, p0, q0, hargs, rfl, rfl, h0, r0⟩ := trodAll_cons hA
  obtain ⟨v1, vs1, d1, ds1, p1, q1, rfl, rfl, rfl, h1, r1⟩ := trodAll_cons r0
  obtain ⟨v2, vs2, d2, ds2, p2, q2, rfl, rfl, rfl, h2, r2⟩ := trodAll_cons r1
  obtain ⟨rfl, rfl, rfl⟩ := trodAll_nil r2
  obtain rfl : args = #[v0, v1, v2] := by cases args; simp_all
  obtain ⟨rfl, rfl⟩ := trodVars_none hV
  obtain ⟨A, c, l, rfl, hr, hx, hn, hm⟩ := open_ops (hval 0 _ v0 rfl rfl) h0
  obtain ⟨B, e, l2, rfl, hr2, hx2, hn2, hm2⟩ := open_ops (hval 1 _ v1 rfl rfl) h1
  obtain ⟨z2, rfl, rfl, rfl, w2⟩ := open_int Try.underlying3 (hval 2 _ v2 rfl rfl) h2
  have walk := walk W A c l hr hx (Nat.le_trans hn hm) B e l2 hr2 hx2 (Nat.le_trans hn2 hm2) z2
  clear hA0 hval0
  refine walk.mono fun e W' ⟨he, hf⟩ => ?_
  subst he
  exact ⟨_, rfl, law_post laidOut paramsOk rfl rfl Try.underlying4 hW' rfl rfl rfl hf⟩

theorem said : Rows.StoreClonesSaid :=
  OpenClaim.holds_of_wide 4 Try.f4 rfl rfl rfl rfl rfl rfl rfl ⟨rfl, rfl, rfl, rfl, rfl⟩ rfl rfl rfl rfl rfl (by kernel_rfl) Try.func4 (by kernel_rfl)
    (of_decide_eq_true (by kernel_rfl)) (by unfold Func.isWrapper; first | (rw [if_pos (by decide +kernel)]; kernel_rfl) | (rw [if_neg (by decide +kernel)]; exact ⟨rfl, rfl⟩))
    (fun os started H enc _ => lifted os started H enc)
end Go.Proofs.Ytkdcacajacndmaa.storeClones
