/- SplitGoesOn is true: when the global log goes on its pieces do: those that there were stay, and the next one behind them is the first new one. No condition. -/
import Derived.Test.YtdgjjkmgdjiliaaLawp
import Derived.Test.YtdgjjkmgdjiliaaSpk15
import Derived.Test.YtdgjjkmgdjiliaaGr15
import Derived.Test.YtdgjjkmgdjiliaaGoP
namespace Go.Proofs.Ytdgjjkmgdjiliaa.splitGoesOn
open Go.ChangeShapes Go.WideShapes Go.ChangeAt Go.RowKit Go.Maps

theorem cutW {w : World} {A : Option Addr} {xs : List Value} (h : Rd w A xs) (k : Nat) : Rd w (A.map fun x => x.add k) (xs.drop k) := by
  intro hx
  rw [List.length_drop] at hx
  obtain ⟨b, o, rfl, hcell⟩ := h (by omega)
  refine ⟨b, o + k, ?_, fun j v hv => ?_⟩
  · show some (Addr.add ⟨b, o, none⟩ k) = _
    unfold Addr.add
    split
    · subst k; rfl
    · rfl
  · rw [List.getElem?_drop] at hv
    have := hcell (k + j) v hv
    rwa [show o + k + j = o + (k + j) by omega]

theorem own_len {w : World} {base n c size : Nat} {e : TypeId} {A : Option Addr} {xs : List Value} (h : w.ownsRow base e size (.slice A n c) n xs) : n ≤ c := by
  obtain ⟨A', c', e1, h1, _⟩ := own_form h
  injection e1 with _ _ e1
  omega

set_option maxRecDepth 100000 in
set_option maxHeartbeats 2000000 in
theorem walk (w : World) (kn rg : Int) (A : Option Addr) (c : Nat) (xs : List Od) (hr : Rd w A (odsc xs)) (hx : ∀ o ∈ xs, OdIn w o ∧ TgOk (tgOf o)) (hn : xs.length ≤ c) (hm : xs.length ≤ 9223372036854775807) :
    Calls Try.prog 10 #[.slice A xs.length c, .int .i64 kn, .int .i64 rg] w fun e w' => e = .returned (.bool true) ∧ Fr NoBlk w w' := by
  have HR := Lib.hid hr
  have HX := Lib.hid hx
  clear hr hx
  go_enter Try.func10, Try.ntmps10
  go_wp2_with fail
  refine (speaks15_any _).mono ?_
  rintro e w1 ⟨rfl, hf1⟩
  have HF1 := Lib.hid hf1
  clear hf1
  have HG := Lib.hid (great15_any w1 A c xs (HR.out.nofr HF1.out) (fun i hi => (HX.out i hi).1.nofr HF1.out) hm)
  go_wp2_with fail
  refine HG.out.mono ?_
  clear HG
  rintro e w2 ⟨⟨bb, rfl, hgr⟩, hf2⟩
  have HF2 := Lib.hid (HF1.out.trans hf2)
  clear hf2 HF1
  cases bb with
  | true =>
    clear hgr
    go_wp2_with fail
    go_ret
    exact ⟨rfl, HF2.out⟩
  | false =>
  have HLL := Lib.hid (hgr.out rfl).1
  have HSM := Lib.hid (hgr.out rfl).2
  have hl30 : xs.length ≤ 30 := HLL.out
  clear hgr
  have HLG : Hid (∀ W, Fr NoBlk w W → LogIn W A xs) := fun W hW => (LogIn.of HR.out HX.out HSM.out HLL.out).nofr hW
  by_cases h0 : rg < 0
  · go_wp2_with fail
    go_ret
    exact ⟨rfl, HF2.out⟩
  have h0' : (0 : Int) ≤ rg := by omega
  clear h0
  by_cases h2 : 2 < rg
  · go_wp2_with fail
    go_ret
    exact ⟨rfl, HF2.out⟩
  have h2' : rg ≤ (2 : Int) := by omega
  clear h2
  obtain ⟨q, hq, hq1⟩ := low_bits kn 1023 (by omega)
  rw [show ((1023 : Nat) : Int) = 1023 from rfl] at hq
  obtain ⟨k, hk⟩ : ∃ k, k = q % (xs.length + 1) := ⟨_, rfl⟩
  have hk1 : k ≤ xs.length := by have := Nat.mod_lt q (show 0 < xs.length + 1 by omega); omega
  have hrem : (q : Int).tmod ((xs.length : Int) + 1) = (k : Int) := by rw [hk]; rfl
  have hkc : (k : Int) ≤ (c : Int) := by omega
  clear hk
  obtain ⟨ps, hps⟩ : ∃ ps, ps = pcs rg xs xs.length := ⟨_, rfl⟩
  obtain ⟨nb, hnb⟩ : ∃ n, n = ps.length := ⟨_, rfl⟩
  obtain ⟨na, hna⟩ : ∃ n, n = (pcs rg xs k).length := ⟨_, rfl⟩
  have hn30 : nb ≤ 30 := by rw [hnb, hps]; exact Nat.le_trans (pcs_len rg xs _) hl30
  have hpre : pcs rg xs k <+: ps := by rw [hps]; exact pcs_pre2 hk1
  have hle : na ≤ nb := by rw [hna, hnb]; exact hpre.length_le
  have HPA : Hid (pcs rg xs k = ps.take na) := by show _ = _; rw [hna]; exact List.prefix_iff_eq_take.1 hpre
  have HPM : Hid (∀ p ∈ ps, p.2 ∈ xs) := fun p hp => by rw [hps] at hp; exact List.mem_of_getElem? (pcs_mem hp).2
  have HPS : Hid (∀ p ∈ ps, OSmall p.2) := fun p hp => HSM.out _ (HPM.out p hp)
  have HUP : Hid (ps.Pairwise fun a b => a.1 < b.1) := by show List.Pairwise _ _; rw [hps]; exact pcs_up
  have HPC : Hid (∀ p ∈ ps, p ∈ pcs rg xs xs.length) := fun p hp => by rw [← hps]; exact hp
  have HPI : Hid (∀ W, Fr NoBlk w W → ∀ p ∈ ps, OdIn W p.2) := fun W hW p hp => ((HX.out _ (HPM.out p hp)).1).nofr hW
  have HDA := Lib.hid (spieces_any w2 A c (xs.take k) rg ((HLG.out _ HF2.out).take k) (fun o ho => HSM.out o (List.mem_of_mem_take ho)))
  rw [List.length_take, Nat.min_eq_left hk1, take_pcs rg xs k hk1 k (Nat.le_refl _), ← hna] at HDA
  have HNB := Lib.hid hnb
  have HP := Lib.hid hps
  clear hps hnb hna hpre hq1
  go_wp2_with fail
  refine HDA.out.mono ?_
  clear HDA
  rintro e w3 ⟨A3, k3, ita, rfl, ho3, hita, hf3⟩
  have HF3 := Lib.hid (HF2.out.trans hf3)
  have HDB := Lib.hid (spieces_any w3 A c xs rg (HLG.out _ HF3.out) HSM.out)
  rw [← HP.out, ← HNB.out] at HDB
  have HO3 := Lib.hid ho3
  have hk3 : na ≤ k3 := own_len ho3
  rw [HPA.out] at hita
  have HITA := Lib.hid hita
  clear ho3 hita hf3 HF2
  go_wp2_with fail
  refine HDB.out.mono ?_
  clear HDB
  rintro e w4 ⟨A4, kb, itb, rfl, ho4, hitb, hf4⟩
  have HF4 := Lib.hid (HF3.out.trans hf4)
  have HR3 : Hid (Rd w4 A3 (imsc ita)) := (Rd.of_ownW HO3.out).nofr hf4
  have HR4 : Hid (Rd w4 A4 (imsc itb)) := Rd.of_ownW ho4
  have hk4 : nb ≤ kb := own_len ho4
  have HITA4 : Hid (ItsOf w4 w2.heap.size ita (ps.take na)) := ⟨HITA.out.1, fun j i p hi hp => (HITA.out.2 j i p hi hp).nofr hf4⟩
  have HITB := Lib.hid hitb
  have hla : ita.length = na := by rw [HITA.out.1, List.length_take, ← HNB.out]; omega
  have hlb : itb.length = nb := hitb.1.trans HNB.out.symm
  have HLA := Lib.hid hla
  have HLB := Lib.hid hlb
  have HSA : Hid (Calls Try.prog 37 #[.slice A3 na k3, .slice A4 na kb] w4 fun e w' => e = .returned (.bool true) ∧ Fr NoBlk w4 w') := by
    refine same15_any w4 A3 A4 na k3 kb ita (itb.take na) hla (by rw [List.length_take, hlb]; omega) (by omega) HR3.out (by rw [imsc_take]; exact HR4.out.take _) (fun i hi => ?_) (fun i hi => ?_) (fun j x y hx hy => ?_)
    · obtain ⟨j, hj⟩ := List.getElem?_of_mem hi
      have hjl := (List.getElem?_eq_some_iff.1 hj).1
      obtain ⟨p, hp⟩ : ∃ p, ps[j]? = some p := ⟨_, List.getElem?_eq_getElem (by have := HNB.out; omega)⟩
      have h := HITA4.out.2 j i p hj (by rw [List.getElem?_take, if_pos (by omega)]; exact hp)
      exact ⟨h.inn, h.like.small (HPS.out p (List.mem_of_getElem? hp))⟩
    · obtain ⟨j, hj⟩ := List.getElem?_of_mem (List.mem_of_mem_take hi)
      have hjl := (List.getElem?_eq_some_iff.1 hj).1
      obtain ⟨p, hp⟩ : ∃ p, ps[j]? = some p := ⟨_, List.getElem?_eq_getElem (by have := HNB.out; omega)⟩
      have h := hitb.2 j i p hj hp
      exact ⟨h.inn, h.like.small (HPS.out p (List.mem_of_getElem? hp))⟩
    · have hjl := (List.getElem?_eq_some_iff.1 hx).1
      rw [List.getElem?_take, if_pos (by omega)] at hy
      obtain ⟨p, hp⟩ : ∃ p, ps[j]? = some p := ⟨_, List.getElem?_eq_getElem (by have := HNB.out; omega)⟩
      exact (HITA4.out.2 j x p hx (by rw [List.getElem?_take, if_pos (by omega)]; exact hp)).two (hitb.2 j y p hy hp)
  clear ho4 hitb hf4 HO3 HF3 hla hlb
  go_wp2_with fail
  refine HSA.out.mono ?_
  clear HSA
  rintro e w5 ⟨rfl, hf5⟩
  have HF5 := Lib.hid (HF4.out.trans hf5)
  have HR35 := Lib.hid (HR3.out.nofr hf5)
  have HR45 := Lib.hid (HR4.out.nofr hf5)
  have HITB5 : Hid (ItsOf w5 w3.heap.size itb ps) := ⟨HITB.out.1, fun j i p hi hp => (HITB.out.2 j i p hi hp).nofr hf5⟩
  obtain ⟨la, hla⟩ : ∃ la, la = laOf ps na := ⟨_, rfl⟩
  have HLAO := Lib.hid hla
  have HD3 : Hid (Calls Try.prog 39 #[.slice A xs.length c, .int .i64 rg, .int .i64 la] w5 (NextPost w5 ps la)) := by
    have h := snext_any w5 A c xs rg la (HLG.out _ HF5.out) HSM.out
    rw [← HP.out] at h
    exact h
  have HIA : Hid (∀ m, na = m + 1 → ∃ b o v, A3 = some ⟨b, o, none⟩ ∧ w5.cell? ⟨b, o + m * 12 + 1, none⟩ = some (.int .i64 v) ∧ v = la) := fun m hm => by
    obtain ⟨x, hx⟩ : ∃ x, ita[m]? = some x := ⟨_, List.getElem?_eq_getElem (by have := HLA.out; omega)⟩
    obtain ⟨p, hp⟩ : ∃ p, ps[m]? = some p := ⟨_, List.getElem?_eq_getElem (by have := HNB.out; omega)⟩
    obtain ⟨b, o, e, hc⟩ := HR35.out.icells hx
    refine ⟨b, o, x.index, e, hc.c1, ?_⟩
    rw [(HITA4.out.2 m x p hx (by rw [List.getElem?_take, if_pos (by omega)]; exact hp)).index, HLAO.out, hm, laOf_succ hp]
  clear hf5 HR3 HR4 HITB HITA HITA4 HF4 hla HR35
  by_cases hz : na = 0
  · have hz0 : (na : Int) ≤ (0 : Int) := by omega
    have hla : la = -1 := by rw [HLAO.out, hz]; rfl
    subst hla
    clear hz HIA
    go_wp2_with fail
    refine HD3.out.mono ?_
    clear HD3
    rintro e w6 hnx
    clear hz0
    obtain ⟨it, b, rfl, hf6, hat⟩ := hnx.open HPS.out
    obtain ⟨q8, hq8⟩ : ∃ q, q = w6.heap.size := ⟨_, rfl⟩
    obtain ⟨w7, hw7⟩ : ∃ w7, w7 = w6.alloc (.cells (ima it) 40) := ⟨_, rfl⟩
    have hf67 : Fr NoBlk w6 w7 := by rw [hw7]; exact (Fr.refl _ _).alloc _
    have HF7 := Lib.hid ((HF5.out.trans hf6).trans hf67)
    have HB7 : Hid (Bk w7 q8 40 #[.int .i64 it.kind, .int .i64 it.index, .int .i64 it.o.node, .int .u64 (it.o.epoch : Int), .int .u64 (it.o.seq : Int), .int .i64 it.o.tr, .int .i64 it.o.t.kind, .slice it.o.t.ra it.o.t.reads.length it.o.t.rc, .slice it.o.t.wa it.o.t.writes.length it.o.t.wc, .slice it.o.t.oa it.o.t.ops.length it.o.t.oc, .int .i64 it.o.t.to, .slice it.o.ma it.o.marks.length it.o.mc]) := by show Bk _ _ _ _; rw [hw7, hq8]; exact Bk.new _ _ _
    have HAT := Lib.hid (hat.nofr hf67)
    have HR47 : Hid (Rd w7 A4 (imsc itb)) := HR45.out.nofr (hf6.trans hf67)
    have HITB7 : Hid (ItsOf w7 w3.heap.size itb ps) := ⟨HITB5.out.1, fun j i p hi hp => (HITB5.out.2 j i p hi hp).nofr (hf6.trans hf67)⟩
    have HSD : Hid (∀ W, Fr NoBlk w7 W → Bk W q8 40 #[.int .i64 it.kind, .int .i64 it.index, .int .i64 it.o.node, .int .u64 (it.o.epoch : Int), .int .u64 (it.o.seq : Int), .int .i64 it.o.tr, .int .i64 it.o.t.kind, .slice it.o.t.ra it.o.t.reads.length it.o.t.rc, .slice it.o.t.wa it.o.t.writes.length it.o.t.wc, .slice it.o.t.oa it.o.t.ops.length it.o.t.oc, .int .i64 it.o.t.to, .slice it.o.ma it.o.marks.length it.o.mc]) := fun W hW => HB7.out.fr hW fun e => e
    have HW7 := Lib.hid hw7
    have HQ8 := Lib.hid hq8
    clear hnx hf6 hat hq8 hw7 hf67 HR45 HITB5 HF5 HB7
    unfold imv ima
    unfold ima at HW7
    go_wp2_with fail
    rw [← HW7.out, ← HQ8.out]
    clear HW7 HQ8
    by_cases hlt : na < nb
    · obtain ⟨p, hp⟩ : ∃ p, ps[na]? = some p := ⟨_, List.getElem?_eq_getElem (by have := HNB.out; omega)⟩
      obtain ⟨y, hy⟩ : ∃ y, itb[na]? = some y := ⟨_, List.getElem?_eq_getElem (by have := HLB.out; omega)⟩
      obtain ⟨hb, hsm⟩ := HAT.out.yes p (by rw [HLAO.out, find_next HUP.out (by have := HNB.out; omega)]; exact hp)
      subst hb
      obtain ⟨wL, hwL⟩ : ∃ wL, wL = (w7.alloc (.cells #[.int .i64 it.kind, .int .i64 it.index, .int .i64 it.o.node, .int .u64 (it.o.epoch : Int), .int .u64 (it.o.seq : Int), .int .i64 it.o.tr, .int .i64 it.o.t.kind, .slice it.o.t.ra it.o.t.reads.length it.o.t.rc, .slice it.o.t.wa it.o.t.writes.length it.o.t.wc, .slice it.o.t.oa it.o.t.ops.length it.o.t.oc, .int .i64 it.o.t.to, .slice it.o.ma it.o.marks.length it.o.mc] 40)).drew := ⟨_, rfl⟩
      have HFL : Hid (Fr NoBlk w7 wL) := by show Fr _ _ _; rw [hwL]; exact ((Fr.refl _ _).alloc _).drew
      obtain ⟨Ay, hAy⟩ : ∃ Ay, Ay = A4.map fun x => x.add (na * 12) := ⟨_, rfl⟩
      have HSL : Hid (Calls Try.prog 37 #[.slice (some ⟨w7.heap.size, 0, none⟩) 1 1, .slice Ay 1 (kb - na)] wL fun e w' => e = .returned (.bool true) ∧ Fr NoBlk wL w') := by
        have hyp := HITB7.out.2 na y p hy hp
        have hrl : Rd wL (some ⟨w7.heap.size, 0, none⟩) (imsc [it]) := by
          rw [hwL]
          exact (Rd.of_cells (cs := #[.int .i64 it.kind, .int .i64 it.index, .int .i64 it.o.node, .int .u64 (it.o.epoch : Int), .int .u64 (it.o.seq : Int), .int .i64 it.o.tr, .int .i64 it.o.t.kind, .slice it.o.t.ra it.o.t.reads.length it.o.t.rc, .slice it.o.t.wa it.o.t.writes.length it.o.t.wc, .slice it.o.t.oa it.o.t.ops.length it.o.t.oc, .int .i64 it.o.t.to, .slice it.o.ma it.o.marks.length it.o.mc]) (Bk.new w7 40 #[.int .i64 it.kind, .int .i64 it.index, .int .i64 it.o.node, .int .u64 (it.o.epoch : Int), .int .u64 (it.o.seq : Int), .int .i64 it.o.tr, .int .i64 it.o.t.kind, .slice it.o.t.ra it.o.t.reads.length it.o.t.rc, .slice it.o.t.wa it.o.t.writes.length it.o.t.wc, .slice it.o.t.oa it.o.t.ops.length it.o.t.oc, .int .i64 it.o.t.to, .slice it.o.ma it.o.marks.length it.o.mc])).nofr (Fr.refl _ _).drew
        have hry : Rd wL Ay (imsc [y]) := by
          rw [hAy]
          have h := (cutW (HR47.out.nofr HFL.out) (na * 12)).take 12
          rw [← imsc_drop, show 12 = 1 * 12 from rfl, ← imsc_take] at h
          rw [show [y] = (itb.drop na).take 1 by rw [List.take_one, List.head?_drop, hy]; rfl]
          exact h
        refine same15_any wL _ _ 1 1 (kb - na) [it] [y] rfl rfl (by omega) hrl hry (fun i hi => ?_) (fun i hi => ?_) (fun j a d ha hd => ?_)
        · rw [List.mem_singleton.1 hi]
          exact ⟨HAT.out.inn.nofr HFL.out, HAT.out.small⟩
        · rw [List.mem_singleton.1 hi]
          exact ⟨hyp.inn.nofr HFL.out, hyp.like.small (HPS.out p (List.mem_of_getElem? hp))⟩
        · cases j with
          | zero =>
            injection ha with ha
            injection hd with hd
            subst ha hd
            exact ItOf.of_same hsm hyp
          | succ j => cases ha
      have HWL := Lib.hid hwL
      have i1 : (na : Int) < (nb : Int) := by omega
      obtain ⟨na1, hna1⟩ : ∃ n, n = na + 1 := ⟨_, rfl⟩
      have i2 : (na1 : Int) ≤ (kb : Int) := by omega
      have i3 : na ≤ na1 := by omega
      have hs1 : na1 - na = 1 := by omega
      have hw1 : IntKind.i64.wrap ((na : Int) + 1) = (na1 : Int) := by rw [show (na : Int) + 1 = (na1 : Int) by omega]; exact IntWalk.i64_in _ (by omega)
      have hne : ¬ kb = na := by omega
      have HAY := Lib.hid hAy
      clear hp hy hsm hwL hlt hna1 hAy
      refine wp_region_held_drew (S := fun w' => Bk w' q8 40 #[.int .i64 it.kind, .int .i64 it.index, .int .i64 it.o.node, .int .u64 (it.o.epoch : Int), .int .u64 (it.o.seq : Int), .int .i64 it.o.tr, .int .i64 it.o.t.kind, .slice it.o.t.ra it.o.t.reads.length it.o.t.rc, .slice it.o.t.wa it.o.t.writes.length it.o.t.wc, .slice it.o.t.oa it.o.t.ops.length it.o.t.oc, .int .i64 it.o.t.to, .slice it.o.ma it.o.marks.length it.o.mc]) (by kernel_rfl) (HSD.out _ (Fr.refl _ _).drew) (fun hHeld => ?_)
      refine wpAnyH_take (i := 0) (oi := ⟨some 73, _, _, _, _, _⟩) (v := ?_) rfl (by kernel_rfl) (by kernel_rfl) (by kernel_rfl) (fun _ _ _ h => h) (Or.inl ⟨by rfl, ?_⟩) (by assumption) ?_
      rotate_left 1
      · (intro w hSw; (try dsimp only at hSw); have k0 := hSw.cell 0; have k1 := hSw.cell 1; have k2 := hSw.cell 2; have k3 := hSw.cell 3; have k4 := hSw.cell 4; have k5 := hSw.cell 5; have k6 := hSw.cell 6; have k7 := hSw.cell 7; have k8 := hSw.cell 8; have k9 := hSw.cell 9; have k10 := hSw.cell 10; have k11 := hSw.cell 11; clear hSw; simp only [List.getElem?_toArray, List.getElem?_cons_succ, List.getElem?_cons_zero] at k0 k1 k2 k3 k4 k5 k6 k7 k8 k9 k10 k11; go_simp) <;> (with_reducible rfl)
      try simp only [Act.put, List.setIfInBounds_toArray, List.set_cons_zero, List.set_cons_succ]
      refine wpAnyH_take (i := 1) (oi := ⟨some 74, _, _, _, _, _⟩) (v := ?_) rfl (by kernel_rfl) (by kernel_rfl) (by kernel_rfl) (fun _ _ _ h => h) (Or.inl ⟨by rfl, ?_⟩) (by assumption) ?_
      rotate_left 1
      · (intro w hSw; (try dsimp only at hSw); have k0 := hSw.cell 0; have k1 := hSw.cell 1; have k2 := hSw.cell 2; have k3 := hSw.cell 3; have k4 := hSw.cell 4; have k5 := hSw.cell 5; have k6 := hSw.cell 6; have k7 := hSw.cell 7; have k8 := hSw.cell 8; have k9 := hSw.cell 9; have k10 := hSw.cell 10; have k11 := hSw.cell 11; clear hSw; simp only [List.getElem?_toArray, List.getElem?_cons_succ, List.getElem?_cons_zero] at k0 k1 k2 k3 k4 k5 k6 k7 k8 k9 k10 k11; go_simp) <;> (with_reducible rfl)
      try simp only [Act.put, List.setIfInBounds_toArray, List.set_cons_zero, List.set_cons_succ]
      refine wpAnyH_take (i := 2) (oi := ⟨some 75, _, _, _, _, _⟩) (v := ?_) rfl (by kernel_rfl) (by kernel_rfl) (by kernel_rfl) (fun _ _ _ h => h) (Or.inl ⟨by rfl, ?_⟩) (by assumption) ?_
      rotate_left 1
      · (intro w hSw; (try dsimp only at hSw); have k0 := hSw.cell 0; have k1 := hSw.cell 1; have k2 := hSw.cell 2; have k3 := hSw.cell 3; have k4 := hSw.cell 4; have k5 := hSw.cell 5; have k6 := hSw.cell 6; have k7 := hSw.cell 7; have k8 := hSw.cell 8; have k9 := hSw.cell 9; have k10 := hSw.cell 10; have k11 := hSw.cell 11; clear hSw; simp only [List.getElem?_toArray, List.getElem?_cons_succ, List.getElem?_cons_zero] at k0 k1 k2 k3 k4 k5 k6 k7 k8 k9 k10 k11; go_simp) <;> (with_reducible rfl)
      try simp only [Act.put, List.setIfInBounds_toArray, List.set_cons_zero, List.set_cons_succ]
      refine wpAnyH_take (i := 3) (oi := ⟨some 76, _, _, _, _, _⟩) (v := ?_) rfl (by kernel_rfl) (by kernel_rfl) (by kernel_rfl) (fun _ _ _ h => h) (Or.inl ⟨by rfl, ?_⟩) (by assumption) ?_
      rotate_left 1
      · (intro w hSw; (try dsimp only at hSw); have k0 := hSw.cell 0; have k1 := hSw.cell 1; have k2 := hSw.cell 2; have k3 := hSw.cell 3; have k4 := hSw.cell 4; have k5 := hSw.cell 5; have k6 := hSw.cell 6; have k7 := hSw.cell 7; have k8 := hSw.cell 8; have k9 := hSw.cell 9; have k10 := hSw.cell 10; have k11 := hSw.cell 11; clear hSw; simp only [List.getElem?_toArray, List.getElem?_cons_succ, List.getElem?_cons_zero] at k0 k1 k2 k3 k4 k5 k6 k7 k8 k9 k10 k11; go_simp) <;> (with_reducible rfl)
      try simp only [Act.put, List.setIfInBounds_toArray, List.set_cons_zero, List.set_cons_succ]
      refine wpAnyH_take (i := 4) (oi := ⟨some 77, _, _, _, _, _⟩) (v := ?_) rfl (by kernel_rfl) (by kernel_rfl) (by kernel_rfl) (fun _ _ _ h => h) (Or.inl ⟨by rfl, ?_⟩) (by assumption) ?_
      rotate_left 1
      · (intro w hSw; (try dsimp only at hSw); have k0 := hSw.cell 0; have k1 := hSw.cell 1; have k2 := hSw.cell 2; have k3 := hSw.cell 3; have k4 := hSw.cell 4; have k5 := hSw.cell 5; have k6 := hSw.cell 6; have k7 := hSw.cell 7; have k8 := hSw.cell 8; have k9 := hSw.cell 9; have k10 := hSw.cell 10; have k11 := hSw.cell 11; clear hSw; simp only [List.getElem?_toArray, List.getElem?_cons_succ, List.getElem?_cons_zero] at k0 k1 k2 k3 k4 k5 k6 k7 k8 k9 k10 k11; go_simp) <;> (with_reducible rfl)
      try simp only [Act.put, List.setIfInBounds_toArray, List.set_cons_zero, List.set_cons_succ]
      refine wpAnyH_take (i := 5) (oi := ⟨some 78, _, _, _, _, _⟩) (v := ?_) rfl (by kernel_rfl) (by kernel_rfl) (by kernel_rfl) (fun _ _ _ h => h) (Or.inl ⟨by rfl, ?_⟩) (by assumption) ?_
      rotate_left 1
      · (intro w hSw; (try dsimp only at hSw); have k0 := hSw.cell 0; have k1 := hSw.cell 1; have k2 := hSw.cell 2; have k3 := hSw.cell 3; have k4 := hSw.cell 4; have k5 := hSw.cell 5; have k6 := hSw.cell 6; have k7 := hSw.cell 7; have k8 := hSw.cell 8; have k9 := hSw.cell 9; have k10 := hSw.cell 10; have k11 := hSw.cell 11; clear hSw; simp only [List.getElem?_toArray, List.getElem?_cons_succ, List.getElem?_cons_zero] at k0 k1 k2 k3 k4 k5 k6 k7 k8 k9 k10 k11; go_simp) <;> (with_reducible rfl)
      try simp only [Act.put, List.setIfInBounds_toArray, List.set_cons_zero, List.set_cons_succ]
      refine wpAnyH_take (i := 6) (oi := ⟨some 79, _, _, _, _, _⟩) (v := ?_) rfl (by kernel_rfl) (by kernel_rfl) (by kernel_rfl) (fun _ _ _ h => h) (Or.inl ⟨by rfl, ?_⟩) (by assumption) ?_
      rotate_left 1
      · (intro w hSw; (try dsimp only at hSw); have k0 := hSw.cell 0; have k1 := hSw.cell 1; have k2 := hSw.cell 2; have k3 := hSw.cell 3; have k4 := hSw.cell 4; have k5 := hSw.cell 5; have k6 := hSw.cell 6; have k7 := hSw.cell 7; have k8 := hSw.cell 8; have k9 := hSw.cell 9; have k10 := hSw.cell 10; have k11 := hSw.cell 11; clear hSw; simp only [List.getElem?_toArray, List.getElem?_cons_succ, List.getElem?_cons_zero] at k0 k1 k2 k3 k4 k5 k6 k7 k8 k9 k10 k11; go_simp) <;> (with_reducible rfl)
      try simp only [Act.put, List.setIfInBounds_toArray, List.set_cons_zero, List.set_cons_succ]
      refine wpAnyH_take (i := 7) (oi := ⟨some 80, _, _, _, _, _⟩) (v := ?_) rfl (by kernel_rfl) (by kernel_rfl) (by kernel_rfl) (fun _ _ _ h => h) (Or.inl ⟨by rfl, ?_⟩) (by assumption) ?_
      rotate_left 1
      · (intro w hSw; (try dsimp only at hSw); have k0 := hSw.cell 0; have k1 := hSw.cell 1; have k2 := hSw.cell 2; have k3 := hSw.cell 3; have k4 := hSw.cell 4; have k5 := hSw.cell 5; have k6 := hSw.cell 6; have k7 := hSw.cell 7; have k8 := hSw.cell 8; have k9 := hSw.cell 9; have k10 := hSw.cell 10; have k11 := hSw.cell 11; clear hSw; simp only [List.getElem?_toArray, List.getElem?_cons_succ, List.getElem?_cons_zero] at k0 k1 k2 k3 k4 k5 k6 k7 k8 k9 k10 k11; go_simp) <;> (with_reducible rfl)
      try simp only [Act.put, List.setIfInBounds_toArray, List.set_cons_zero, List.set_cons_succ]
      refine wpAnyH_take (i := 8) (oi := ⟨some 81, _, _, _, _, _⟩) (v := ?_) rfl (by kernel_rfl) (by kernel_rfl) (by kernel_rfl) (fun _ _ _ h => h) (Or.inl ⟨by rfl, ?_⟩) (by assumption) ?_
      rotate_left 1
      · (intro w hSw; (try dsimp only at hSw); have k0 := hSw.cell 0; have k1 := hSw.cell 1; have k2 := hSw.cell 2; have k3 := hSw.cell 3; have k4 := hSw.cell 4; have k5 := hSw.cell 5; have k6 := hSw.cell 6; have k7 := hSw.cell 7; have k8 := hSw.cell 8; have k9 := hSw.cell 9; have k10 := hSw.cell 10; have k11 := hSw.cell 11; clear hSw; simp only [List.getElem?_toArray, List.getElem?_cons_succ, List.getElem?_cons_zero] at k0 k1 k2 k3 k4 k5 k6 k7 k8 k9 k10 k11; go_simp) <;> (with_reducible rfl)
      try simp only [Act.put, List.setIfInBounds_toArray, List.set_cons_zero, List.set_cons_succ]
      refine wpAnyH_take (i := 9) (oi := ⟨some 82, _, _, _, _, _⟩) (v := ?_) rfl (by kernel_rfl) (by kernel_rfl) (by kernel_rfl) (fun _ _ _ h => h) (Or.inl ⟨by rfl, ?_⟩) (by assumption) ?_
      rotate_left 1
      · (intro w hSw; (try dsimp only at hSw); have k0 := hSw.cell 0; have k1 := hSw.cell 1; have k2 := hSw.cell 2; have k3 := hSw.cell 3; have k4 := hSw.cell 4; have k5 := hSw.cell 5; have k6 := hSw.cell 6; have k7 := hSw.cell 7; have k8 := hSw.cell 8; have k9 := hSw.cell 9; have k10 := hSw.cell 10; have k11 := hSw.cell 11; clear hSw; simp only [List.getElem?_toArray, List.getElem?_cons_succ, List.getElem?_cons_zero] at k0 k1 k2 k3 k4 k5 k6 k7 k8 k9 k10 k11; go_simp) <;> (with_reducible rfl)
      try simp only [Act.put, List.setIfInBounds_toArray, List.set_cons_zero, List.set_cons_succ]
      refine wpAnyH_take (i := 10) (oi := ⟨some 83, _, _, _, _, _⟩) (v := ?_) rfl (by kernel_rfl) (by kernel_rfl) (by kernel_rfl) (fun _ _ _ h => h) (Or.inl ⟨by rfl, ?_⟩) (by assumption) ?_
      rotate_left 1
      · (intro w hSw; (try dsimp only at hSw); have k0 := hSw.cell 0; have k1 := hSw.cell 1; have k2 := hSw.cell 2; have k3 := hSw.cell 3; have k4 := hSw.cell 4; have k5 := hSw.cell 5; have k6 := hSw.cell 6; have k7 := hSw.cell 7; have k8 := hSw.cell 8; have k9 := hSw.cell 9; have k10 := hSw.cell 10; have k11 := hSw.cell 11; clear hSw; simp only [List.getElem?_toArray, List.getElem?_cons_succ, List.getElem?_cons_zero] at k0 k1 k2 k3 k4 k5 k6 k7 k8 k9 k10 k11; go_simp) <;> (with_reducible rfl)
      try simp only [Act.put, List.setIfInBounds_toArray, List.set_cons_zero, List.set_cons_succ]
      refine wpAnyH_take (i := 12) (oi := ⟨some 85, _, _, _, _, _⟩) (v := ?_) rfl (by kernel_rfl) (by kernel_rfl) (by kernel_rfl) (fun _ _ _ h => h) (Or.inl ⟨by rfl, ?_⟩) (by assumption) ?_
      rotate_left 1
      · (intro w hSw; (try dsimp only at hSw); have k0 := hSw.cell 0; have k1 := hSw.cell 1; have k2 := hSw.cell 2; have k3 := hSw.cell 3; have k4 := hSw.cell 4; have k5 := hSw.cell 5; have k6 := hSw.cell 6; have k7 := hSw.cell 7; have k8 := hSw.cell 8; have k9 := hSw.cell 9; have k10 := hSw.cell 10; have k11 := hSw.cell 11; clear hSw; simp only [List.getElem?_toArray, List.getElem?_cons_succ, List.getElem?_cons_zero] at k0 k1 k2 k3 k4 k5 k6 k7 k8 k9 k10 k11; go_simp) <;> (with_reducible rfl)
      try simp only [Act.put, List.setIfInBounds_toArray, List.set_cons_zero, List.set_cons_succ]
      refine wpAnyH_take (i := 13) (oi := ⟨some 86, _, _, _, _, _⟩) (v := ?_) rfl (by kernel_rfl) (by kernel_rfl) (by kernel_rfl) (fun _ _ _ h => h) (Or.inl ⟨by rfl, ?_⟩) (by assumption) ?_
      rotate_left 1
      · (intro w hSw; (try dsimp only at hSw); have k0 := hSw.cell 0; have k1 := hSw.cell 1; have k2 := hSw.cell 2; have k3 := hSw.cell 3; have k4 := hSw.cell 4; have k5 := hSw.cell 5; have k6 := hSw.cell 6; have k7 := hSw.cell 7; have k8 := hSw.cell 8; have k9 := hSw.cell 9; have k10 := hSw.cell 10; have k11 := hSw.cell 11; clear hSw; simp only [List.getElem?_toArray, List.getElem?_cons_succ, List.getElem?_cons_zero] at k0 k1 k2 k3 k4 k5 k6 k7 k8 k9 k10 k11; go_simp) <;> (with_reducible rfl)
      try simp only [Act.put, List.setIfInBounds_toArray, List.set_cons_zero, List.set_cons_succ]
      refine wpAnyH_take (i := 14) (oi := ⟨some 87, _, _, _, _, _⟩) (v := ?_) rfl (by kernel_rfl) (by kernel_rfl) (by kernel_rfl) (fun _ _ _ h => h) (Or.inl ⟨by rfl, ?_⟩) (by assumption) ?_
      rotate_left 1
      · (intro w hSw; (try dsimp only at hSw); have k0 := hSw.cell 0; have k1 := hSw.cell 1; have k2 := hSw.cell 2; have k3 := hSw.cell 3; have k4 := hSw.cell 4; have k5 := hSw.cell 5; have k6 := hSw.cell 6; have k7 := hSw.cell 7; have k8 := hSw.cell 8; have k9 := hSw.cell 9; have k10 := hSw.cell 10; have k11 := hSw.cell 11; clear hSw; simp only [List.getElem?_toArray, List.getElem?_cons_succ, List.getElem?_cons_zero] at k0 k1 k2 k3 k4 k5 k6 k7 k8 k9 k10 k11; go_simp) <;> (with_reducible rfl)
      try simp only [Act.put, List.setIfInBounds_toArray, List.set_cons_zero, List.set_cons_succ]
      refine wpAnyH_take (i := 15) (oi := ⟨some 88, _, _, _, _, _⟩) (v := ?_) rfl (by kernel_rfl) (by kernel_rfl) (by kernel_rfl) (fun _ _ _ h => h) (Or.inl ⟨by rfl, ?_⟩) (by assumption) ?_
      rotate_left 1
      · (intro w hSw; (try dsimp only at hSw); have k0 := hSw.cell 0; have k1 := hSw.cell 1; have k2 := hSw.cell 2; have k3 := hSw.cell 3; have k4 := hSw.cell 4; have k5 := hSw.cell 5; have k6 := hSw.cell 6; have k7 := hSw.cell 7; have k8 := hSw.cell 8; have k9 := hSw.cell 9; have k10 := hSw.cell 10; have k11 := hSw.cell 11; clear hSw; simp only [List.getElem?_toArray, List.getElem?_cons_succ, List.getElem?_cons_zero] at k0 k1 k2 k3 k4 k5 k6 k7 k8 k9 k10 k11; go_simp) <;> (with_reducible rfl)
      try simp only [Act.put, List.setIfInBounds_toArray, List.set_cons_zero, List.set_cons_succ]
      refine wpAnyH_take (i := 16) (oi := ⟨some 89, _, _, _, _, _⟩) (v := ?_) rfl (by kernel_rfl) (by kernel_rfl) (by kernel_rfl) (fun _ _ _ h => h) (Or.inl ⟨by rfl, ?_⟩) (by assumption) ?_
      rotate_left 1
      · (intro w hSw; (try dsimp only at hSw); have k0 := hSw.cell 0; have k1 := hSw.cell 1; have k2 := hSw.cell 2; have k3 := hSw.cell 3; have k4 := hSw.cell 4; have k5 := hSw.cell 5; have k6 := hSw.cell 6; have k7 := hSw.cell 7; have k8 := hSw.cell 8; have k9 := hSw.cell 9; have k10 := hSw.cell 10; have k11 := hSw.cell 11; clear hSw; simp only [List.getElem?_toArray, List.getElem?_cons_succ, List.getElem?_cons_zero] at k0 k1 k2 k3 k4 k5 k6 k7 k8 k9 k10 k11; go_simp) <;> (with_reducible rfl)
      try simp only [Act.put, List.setIfInBounds_toArray, List.set_cons_zero, List.set_cons_succ]
      refine wpAnyH_take (i := 17) (oi := ⟨some 90, _, _, _, _, _⟩) (v := ?_) rfl (by kernel_rfl) (by kernel_rfl) (by kernel_rfl) (fun _ _ _ h => h) (Or.inl ⟨by rfl, ?_⟩) (by assumption) ?_
      rotate_left 1
      · (intro w hSw; (try dsimp only at hSw); have k0 := hSw.cell 0; have k1 := hSw.cell 1; have k2 := hSw.cell 2; have k3 := hSw.cell 3; have k4 := hSw.cell 4; have k5 := hSw.cell 5; have k6 := hSw.cell 6; have k7 := hSw.cell 7; have k8 := hSw.cell 8; have k9 := hSw.cell 9; have k10 := hSw.cell 10; have k11 := hSw.cell 11; clear hSw; simp only [List.getElem?_toArray, List.getElem?_cons_succ, List.getElem?_cons_zero] at k0 k1 k2 k3 k4 k5 k6 k7 k8 k9 k10 k11; go_simp) <;> (with_reducible rfl)
      try simp only [Act.put, List.setIfInBounds_toArray, List.set_cons_zero, List.set_cons_succ]
      refine wpAnyH_take (i := 18) (oi := ⟨some 91, _, _, _, _, _⟩) (v := ?_) rfl (by kernel_rfl) (by kernel_rfl) (by kernel_rfl) (fun _ _ _ h => h) (Or.inl ⟨by rfl, ?_⟩) (by assumption) ?_
      rotate_left 1
      · (intro w hSw; (try dsimp only at hSw); have k0 := hSw.cell 0; have k1 := hSw.cell 1; have k2 := hSw.cell 2; have k3 := hSw.cell 3; have k4 := hSw.cell 4; have k5 := hSw.cell 5; have k6 := hSw.cell 6; have k7 := hSw.cell 7; have k8 := hSw.cell 8; have k9 := hSw.cell 9; have k10 := hSw.cell 10; have k11 := hSw.cell 11; clear hSw; simp only [List.getElem?_toArray, List.getElem?_cons_succ, List.getElem?_cons_zero] at k0 k1 k2 k3 k4 k5 k6 k7 k8 k9 k10 k11; go_simp) <;> (with_reducible rfl)
      try simp only [Act.put, List.setIfInBounds_toArray, List.set_cons_zero, List.set_cons_succ]
      rw [← HAY.out]
      refine wpAnyH_ready (rs := [11]) (by kernel_rfl) (by simp) ?_
      refine AllReadyH.cons (o := ⟨some 84, _, _, _, _, _⟩) rfl (fun K hK => ?_) AllReadyH.nil
      go_simp
      rw [← HWL.out]
      refine hK.out _ _ ?_ (fun hHeld => ?_)
      · exact HSD.out _ HFL.out
      clear hK K
      try simp only [Act.put, List.setIfInBounds_toArray, List.set_cons_zero, List.set_cons_succ]
      refine wpAnyH_ready (rs := [19]) (by kernel_rfl) (by simp) ?_
      refine AllReadyH.cons (o := ⟨some 92, _, _, _, _, _⟩) rfl (fun K hK => ?_) AllReadyH.nil
      go_simp
      go_at_call 37
      refine HSL.out.mono ?_
      clear HSL hHeld
      rintro e w9 ⟨he, hf9⟩
      obtain rfl : e = .returned (.bool true) := he
      have HF9 : Hid (Fr NoBlk w7 w9) := HFL.out.trans hf9
      clear hf9
      refine hK.out _ _ ?_ (fun hHeld => ?_)
      · exact HSD.out _ HF9.out
      clear hK K
      try simp only [Act.put, List.setIfInBounds_toArray, List.set_cons_zero, List.set_cons_succ]
      refine wpAnyH_take (i := 20) (oi := ⟨some 93, _, _, _, _, _⟩) (v := ?_) rfl (by kernel_rfl) (by kernel_rfl) (by kernel_rfl) (fun _ _ _ h => h) (Or.inl ⟨by rfl, ?_⟩) (by assumption) ?_
      rotate_left 1
      · (intro w hSw; (try dsimp only at hSw); have k0 := hSw.cell 0; have k1 := hSw.cell 1; have k2 := hSw.cell 2; have k3 := hSw.cell 3; have k4 := hSw.cell 4; have k5 := hSw.cell 5; have k6 := hSw.cell 6; have k7 := hSw.cell 7; have k8 := hSw.cell 8; have k9 := hSw.cell 9; have k10 := hSw.cell 10; have k11 := hSw.cell 11; clear hSw; simp only [List.getElem?_toArray, List.getElem?_cons_succ, List.getElem?_cons_zero] at k0 k1 k2 k3 k4 k5 k6 k7 k8 k9 k10 k11; go_simp) <;> (with_reducible rfl)
      try simp only [Act.put, List.setIfInBounds_toArray, List.set_cons_zero, List.set_cons_succ]
      refine wpAnyH_take (i := 21) (oi := ⟨some 94, _, _, _, _, _⟩) (v := ?_) rfl (by kernel_rfl) (by kernel_rfl) (by kernel_rfl) (fun _ _ _ h => h) (Or.inl ⟨by rfl, ?_⟩) (by assumption) ?_
      rotate_left 1
      · (intro w hSw; (try dsimp only at hSw); have k0 := hSw.cell 0; have k1 := hSw.cell 1; have k2 := hSw.cell 2; have k3 := hSw.cell 3; have k4 := hSw.cell 4; have k5 := hSw.cell 5; have k6 := hSw.cell 6; have k7 := hSw.cell 7; have k8 := hSw.cell 8; have k9 := hSw.cell 9; have k10 := hSw.cell 10; have k11 := hSw.cell 11; clear hSw; simp only [List.getElem?_toArray, List.getElem?_cons_succ, List.getElem?_cons_zero] at k0 k1 k2 k3 k4 k5 k6 k7 k8 k9 k10 k11; go_simp) <;> (with_reducible rfl)
      try simp only [Act.put, List.setIfInBounds_toArray, List.set_cons_zero, List.set_cons_succ]
      refine wpAnyH_take (i := 22) (oi := ⟨some 95, _, _, _, _, _⟩) (v := ?_) rfl (by kernel_rfl) (by kernel_rfl) (by kernel_rfl) (fun _ _ _ h => h) (Or.inl ⟨by rfl, ?_⟩) (by assumption) ?_
      rotate_left 1
      · (intro w hSw; (try dsimp only at hSw); have k0 := hSw.cell 0; have k1 := hSw.cell 1; have k2 := hSw.cell 2; have k3 := hSw.cell 3; have k4 := hSw.cell 4; have k5 := hSw.cell 5; have k6 := hSw.cell 6; have k7 := hSw.cell 7; have k8 := hSw.cell 8; have k9 := hSw.cell 9; have k10 := hSw.cell 10; have k11 := hSw.cell 11; clear hSw; simp only [List.getElem?_toArray, List.getElem?_cons_succ, List.getElem?_cons_zero] at k0 k1 k2 k3 k4 k5 k6 k7 k8 k9 k10 k11; go_simp) <;> (with_reducible rfl)
      try simp only [Act.put, List.setIfInBounds_toArray, List.set_cons_zero, List.set_cons_succ]
      refine wpAnyH_done (by kernel_rfl) ?_ _
      obtain ⟨wv, hwv⟩ : ∃ wv, wv = w9 := ⟨_, rfl⟩
      have HFV : Hid (Fr NoBlk w wv) := by show Fr _ _ _; rw [hwv]; exact HF7.out.trans HF9.out
      have HRV : Hid (∀ W, Fr NoBlk wv W → Rd W A4 (imsc itb) ∧ ItsOf W w3.heap.size itb ps) := fun W hW => by
        have h : Fr NoBlk w7 W := by rw [hwv] at hW; exact HF9.out.trans hW
        exact ⟨HR47.out.nofr h, HITB7.out.1, fun j i p hi hp => (HITB7.out.2 j i p hi hp).nofr h⟩
      rw [← hwv]
      clear hwv HR47 HITB7 HSD HAT HF7 HF9
      go_wp2_with fail
      refine (fregion_any _ _).mono ?_
      rintro e wa ⟨g1, b1, rfl, h1, hf1⟩
      obtain ⟨B1, hB1⟩ : ∃ B, B = wv.heap.size := ⟨_, rfl⟩
      rw [← hB1] at h1
      have HBM : Hid (∀ W, Fr (fun b => b = b1 ∨ b = g1) wa W → Fr NoBlk wv W) := fun W hW => hf1.step hW fun i hi e => by have := h1.b1; have := h1.b2; omega
      have H1 := Lib.hid h1
      clear h1 hf1 hB1
      go_wp2_with fail
      go_loopw [102] (fun z wr => ∃ n s : Nat, n ≤ nb ∧ z = .int .i64 n ∧ s ≤ n ∧ Hid (Fl wr B1 g1 b1 s rg (laOf ps n) fun _ => false) ∧ Hid (Fr (fun b => b = b1 ∨ b = g1) wa wr)) (fun z _ => nb - (intOf z).toNat)
      case atStart => exact ⟨0, 0, by omega, rfl, Nat.le_refl _, H1, Fr.refl _ _⟩
      case round =>
        obtain ⟨n, s, hn2, rfl, hs2, HFL, HFW⟩ := hrel
        by_cases hlt : n < nb
        · obtain ⟨p, hp⟩ : ∃ p, ps[n]? = some p := ⟨_, List.getElem?_eq_getElem (by have := HNB.out; omega)⟩
          obtain ⟨x, hx⟩ : ∃ x, itb[n]? = some x := ⟨_, List.getElem?_eq_getElem (by have := HLB.out; omega)⟩
          obtain ⟨hrd, hits⟩ := HRV.out _ (HBM.out _ HFW.out)
          have hxp := hits.2 n x p hx hp
          obtain ⟨pb, po, rfl, hc⟩ := hrd.icells hx
          obtain ⟨c0, c1, c2, c3, c4, c5, c6, c7, c8, c9, c10, c11⟩ := hc
          obtain ⟨q, hq⟩ : ∃ q, q = wr.heap.size := ⟨_, rfl⟩
          obtain ⟨w8, hw8⟩ : ∃ w8, w8 = wr.alloc (.cells #[.int .i64 x.kind, .int .i64 x.index, .int .i64 x.o.node, .int .u64 (x.o.epoch : Int), .int .u64 (x.o.seq : Int), .int .i64 x.o.tr, .int .i64 x.o.t.kind, .slice x.o.t.ra x.o.t.reads.length x.o.t.rc, .slice x.o.t.wa x.o.t.writes.length x.o.t.wc, .slice x.o.t.oa x.o.t.ops.length x.o.t.oc, .int .i64 x.o.t.to, .slice x.o.ma x.o.marks.length x.o.mc] 40) := ⟨_, rfl⟩
          have hf8 : Fr NoBlk wr w8 := by rw [hw8]; exact (Fr.refl _ _).alloc _
          have hbp : Bk w8 q 40 #[.int .i64 x.kind, .int .i64 x.index, .int .i64 x.o.node, .int .u64 (x.o.epoch : Int), .int .u64 (x.o.seq : Int), .int .i64 x.o.tr, .int .i64 x.o.t.kind, .slice x.o.t.ra x.o.t.reads.length x.o.t.rc, .slice x.o.t.wa x.o.t.writes.length x.o.t.wc, .slice x.o.t.oa x.o.t.ops.length x.o.t.oc, .int .i64 x.o.t.to, .slice x.o.ma x.o.marks.length x.o.mc] := by rw [hw8, hq]; exact Bk.new _ _ _
          have hpm := List.mem_of_getElem? hp
          have HI : Hid (Calls Try.prog 19 #[.pointer (some ⟨g1, 0, none⟩), imv x] w8 fun e w' => e = .returned (.bool true) ∧ (∃ s', s' ≤ s + 1 ∧ Fl w' B1 g1 b1 s' rg (laOf ps (n + 1)) fun _ => false) ∧ Fr (fun b => b = b1 ∨ b = g1) w8 w') := by
            have htg : tgOf x.o = tgOf p.2 := by unfold tgOf; rw [hxp.like.node, hxp.like.epoch, hxp.like.seq, hxp.like.tr]
            have h := fitem_any w8 B1 g1 b1 s rg (laOf ps n) (fun _ => false) (HFL.out.nofr hf8) (by omega) x (hxp.inn.nofr hf8) (by rw [hxp.like.marks]; have := (HPS.out p hpm).m; omega) (by rw [htg]; exact (HX.out _ (HPM.out p hpm)).2)
            obtain ⟨e1, e2, e3⟩ := count_piece hxp (HPC.out p hpm) (laOf_lt HUP.out hp) fun _ => false
            unfold ItemPost at h
            rw [e1, e2, e3, ← laOf_succ hp] at h
            exact h
          have HFW8 := Lib.hid (HFW.out.trans (hf8.mono fun _ _ e => e.elim))
          have d0 : w8.cell? ⟨q, 0, none⟩ = some (.int .i64 x.kind) := hbp.cell 0
          have d1 : w8.cell? ⟨q, 1, none⟩ = some (.int .i64 x.index) := hbp.cell 1
          have d2 : w8.cell? ⟨q, 2, none⟩ = some (.int .i64 x.o.node) := hbp.cell 2
          have d3 : w8.cell? ⟨q, 3, none⟩ = some (.int .u64 (x.o.epoch : Int)) := hbp.cell 3
          have d4 : w8.cell? ⟨q, 4, none⟩ = some (.int .u64 (x.o.seq : Int)) := hbp.cell 4
          have d5 : w8.cell? ⟨q, 5, none⟩ = some (.int .i64 x.o.tr) := hbp.cell 5
          have d6 : w8.cell? ⟨q, 6, none⟩ = some (.int .i64 x.o.t.kind) := hbp.cell 6
          have d7 : w8.cell? ⟨q, 7, none⟩ = some (.slice x.o.t.ra x.o.t.reads.length x.o.t.rc) := hbp.cell 7
          have d8 : w8.cell? ⟨q, 8, none⟩ = some (.slice x.o.t.wa x.o.t.writes.length x.o.t.wc) := hbp.cell 8
          have d9 : w8.cell? ⟨q, 9, none⟩ = some (.slice x.o.t.oa x.o.t.ops.length x.o.t.oc) := hbp.cell 9
          have d10 : w8.cell? ⟨q, 10, none⟩ = some (.int .i64 x.o.t.to) := hbp.cell 10
          have d11 : w8.cell? ⟨q, 11, none⟩ = some (.slice x.o.ma x.o.marks.length x.o.mc) := hbp.cell 11
          have j1 : (0 : Int) ≤ (n : Int) := by omega
          have j2 : (n : Int) < (nb : Int) := by omega
          unfold imv ima at HI
          clear hp hx hrd hits hxp hpm hbp hf8 hlt HFL HFW
          subst hw8 hq
          go_wp2_with fail
          refine HI.out.mono ?_
          clear HI
          rintro e w11 ⟨rfl, ⟨s', hs', h11⟩, hf11⟩
          have HN : Hid (Fl w11 B1 g1 b1 s' rg (laOf ps (n + 1)) fun _ => false) := h11
          have HFN := Lib.hid (HFW8.out.trans hf11)
          clear h11 hf11 HFW8
          go_wp2_with fail
          go_roundw
          case rel => exact ⟨n + 1, s', by omega, by go_num, by omega, HN, HFN⟩
          case measure => simp [intOf]; omega
        have j3 : (nb : Int) ≤ (n : Int) := by omega
        have HFZ := Lib.hid (HFV.out.trans (HBM.out _ HFW.out))
        clear hlt
        go_wp2_with fail
        go_ret
        exact ⟨rfl, HFZ.out⟩
    · obtain ⟨hb, hit⟩ := HAT.out.no (by rw [HLAO.out, find_next HUP.out (by have := HNB.out; omega)]; exact List.getElem?_eq_none (by have := HNB.out; omega))
      subst hb hit
      have hnn : nb = na := by omega
      clear hlt
      subst hnn
      have HF9 : Hid (Fr NoBlk w7 w7.drew) := (Fr.refl _ _).drew
      refine wp_region_held_drew (S := fun w' => Bk w' q8 40 #[.int .i64 imz.kind, .int .i64 imz.index, .int .i64 imz.o.node, .int .u64 (imz.o.epoch : Int), .int .u64 (imz.o.seq : Int), .int .i64 imz.o.tr, .int .i64 imz.o.t.kind, .slice imz.o.t.ra imz.o.t.reads.length imz.o.t.rc, .slice imz.o.t.wa imz.o.t.writes.length imz.o.t.wc, .slice imz.o.t.oa imz.o.t.ops.length imz.o.t.oc, .int .i64 imz.o.t.to, .slice imz.o.ma imz.o.marks.length imz.o.mc]) (by kernel_rfl) (HSD.out _ (Fr.refl _ _).drew) (fun hHeld => ?_)
      refine wpAnyH_take (i := 0) (oi := ⟨some 73, _, _, _, _, _⟩) (v := ?_) rfl (by kernel_rfl) (by kernel_rfl) (by kernel_rfl) (fun _ _ _ h => h) (Or.inl ⟨by rfl, ?_⟩) (by assumption) ?_
      rotate_left 1
      · (intro w hSw; (try dsimp only at hSw); have k0 := hSw.cell 0; have k1 := hSw.cell 1; have k2 := hSw.cell 2; have k3 := hSw.cell 3; have k4 := hSw.cell 4; have k5 := hSw.cell 5; have k6 := hSw.cell 6; have k7 := hSw.cell 7; have k8 := hSw.cell 8; have k9 := hSw.cell 9; have k10 := hSw.cell 10; have k11 := hSw.cell 11; clear hSw; simp only [List.getElem?_toArray, List.getElem?_cons_succ, List.getElem?_cons_zero] at k0 k1 k2 k3 k4 k5 k6 k7 k8 k9 k10 k11; go_simp) <;> (with_reducible rfl)
      try simp only [Act.put, List.setIfInBounds_toArray, List.set_cons_zero, List.set_cons_succ]
      refine wpAnyH_take (i := 1) (oi := ⟨some 74, _, _, _, _, _⟩) (v := ?_) rfl (by kernel_rfl) (by kernel_rfl) (by kernel_rfl) (fun _ _ _ h => h) (Or.inl ⟨by rfl, ?_⟩) (by assumption) ?_
      rotate_left 1
      · (intro w hSw; (try dsimp only at hSw); have k0 := hSw.cell 0; have k1 := hSw.cell 1; have k2 := hSw.cell 2; have k3 := hSw.cell 3; have k4 := hSw.cell 4; have k5 := hSw.cell 5; have k6 := hSw.cell 6; have k7 := hSw.cell 7; have k8 := hSw.cell 8; have k9 := hSw.cell 9; have k10 := hSw.cell 10; have k11 := hSw.cell 11; clear hSw; simp only [List.getElem?_toArray, List.getElem?_cons_succ, List.getElem?_cons_zero] at k0 k1 k2 k3 k4 k5 k6 k7 k8 k9 k10 k11; go_simp) <;> (with_reducible rfl)
      try simp only [Act.put, List.setIfInBounds_toArray, List.set_cons_zero, List.set_cons_succ]
      refine wpAnyH_take (i := 2) (oi := ⟨some 75, _, _, _, _, _⟩) (v := ?_) rfl (by kernel_rfl) (by kernel_rfl) (by kernel_rfl) (fun _ _ _ h => h) (Or.inl ⟨by rfl, ?_⟩) (by assumption) ?_
      rotate_left 1
      · (intro w hSw; (try dsimp only at hSw); have k0 := hSw.cell 0; have k1 := hSw.cell 1; have k2 := hSw.cell 2; have k3 := hSw.cell 3; have k4 := hSw.cell 4; have k5 := hSw.cell 5; have k6 := hSw.cell 6; have k7 := hSw.cell 7; have k8 := hSw.cell 8; have k9 := hSw.cell 9; have k10 := hSw.cell 10; have k11 := hSw.cell 11; clear hSw; simp only [List.getElem?_toArray, List.getElem?_cons_succ, List.getElem?_cons_zero] at k0 k1 k2 k3 k4 k5 k6 k7 k8 k9 k10 k11; go_simp) <;> (with_reducible rfl)
      try simp only [Act.put, List.setIfInBounds_toArray, List.set_cons_zero, List.set_cons_succ]
      refine wpAnyH_take (i := 3) (oi := ⟨some 76, _, _, _, _, _⟩) (v := ?_) rfl (by kernel_rfl) (by kernel_rfl) (by kernel_rfl) (fun _ _ _ h => h) (Or.inl ⟨by rfl, ?_⟩) (by assumption) ?_
      rotate_left 1
      · (intro w hSw; (try dsimp only at hSw); have k0 := hSw.cell 0; have k1 := hSw.cell 1; have k2 := hSw.cell 2; have k3 := hSw.cell 3; have k4 := hSw.cell 4; have k5 := hSw.cell 5; have k6 := hSw.cell 6; have k7 := hSw.cell 7; have k8 := hSw.cell 8; have k9 := hSw.cell 9; have k10 := hSw.cell 10; have k11 := hSw.cell 11; clear hSw; simp only [List.getElem?_toArray, List.getElem?_cons_succ, List.getElem?_cons_zero] at k0 k1 k2 k3 k4 k5 k6 k7 k8 k9 k10 k11; go_simp) <;> (with_reducible rfl)
      try simp only [Act.put, List.setIfInBounds_toArray, List.set_cons_zero, List.set_cons_succ]
      refine wpAnyH_take (i := 4) (oi := ⟨some 77, _, _, _, _, _⟩) (v := ?_) rfl (by kernel_rfl) (by kernel_rfl) (by kernel_rfl) (fun _ _ _ h => h) (Or.inl ⟨by rfl, ?_⟩) (by assumption) ?_
      rotate_left 1
      · (intro w hSw; (try dsimp only at hSw); have k0 := hSw.cell 0; have k1 := hSw.cell 1; have k2 := hSw.cell 2; have k3 := hSw.cell 3; have k4 := hSw.cell 4; have k5 := hSw.cell 5; have k6 := hSw.cell 6; have k7 := hSw.cell 7; have k8 := hSw.cell 8; have k9 := hSw.cell 9; have k10 := hSw.cell 10; have k11 := hSw.cell 11; clear hSw; simp only [List.getElem?_toArray, List.getElem?_cons_succ, List.getElem?_cons_zero] at k0 k1 k2 k3 k4 k5 k6 k7 k8 k9 k10 k11; go_simp) <;> (with_reducible rfl)
      try simp only [Act.put, List.setIfInBounds_toArray, List.set_cons_zero, List.set_cons_succ]
      refine wpAnyH_take (i := 5) (oi := ⟨some 78, _, _, _, _, _⟩) (v := ?_) rfl (by kernel_rfl) (by kernel_rfl) (by kernel_rfl) (fun _ _ _ h => h) (Or.inl ⟨by rfl, ?_⟩) (by assumption) ?_
      rotate_left 1
      · (intro w hSw; (try dsimp only at hSw); have k0 := hSw.cell 0; have k1 := hSw.cell 1; have k2 := hSw.cell 2; have k3 := hSw.cell 3; have k4 := hSw.cell 4; have k5 := hSw.cell 5; have k6 := hSw.cell 6; have k7 := hSw.cell 7; have k8 := hSw.cell 8; have k9 := hSw.cell 9; have k10 := hSw.cell 10; have k11 := hSw.cell 11; clear hSw; simp only [List.getElem?_toArray, List.getElem?_cons_succ, List.getElem?_cons_zero] at k0 k1 k2 k3 k4 k5 k6 k7 k8 k9 k10 k11; go_simp) <;> (with_reducible rfl)
      try simp only [Act.put, List.setIfInBounds_toArray, List.set_cons_zero, List.set_cons_succ]
      refine wpAnyH_take (i := 6) (oi := ⟨some 79, _, _, _, _, _⟩) (v := ?_) rfl (by kernel_rfl) (by kernel_rfl) (by kernel_rfl) (fun _ _ _ h => h) (Or.inl ⟨by rfl, ?_⟩) (by assumption) ?_
      rotate_left 1
      · (intro w hSw; (try dsimp only at hSw); have k0 := hSw.cell 0; have k1 := hSw.cell 1; have k2 := hSw.cell 2; have k3 := hSw.cell 3; have k4 := hSw.cell 4; have k5 := hSw.cell 5; have k6 := hSw.cell 6; have k7 := hSw.cell 7; have k8 := hSw.cell 8; have k9 := hSw.cell 9; have k10 := hSw.cell 10; have k11 := hSw.cell 11; clear hSw; simp only [List.getElem?_toArray, List.getElem?_cons_succ, List.getElem?_cons_zero] at k0 k1 k2 k3 k4 k5 k6 k7 k8 k9 k10 k11; go_simp) <;> (with_reducible rfl)
      try simp only [Act.put, List.setIfInBounds_toArray, List.set_cons_zero, List.set_cons_succ]
      refine wpAnyH_take (i := 7) (oi := ⟨some 80, _, _, _, _, _⟩) (v := ?_) rfl (by kernel_rfl) (by kernel_rfl) (by kernel_rfl) (fun _ _ _ h => h) (Or.inl ⟨by rfl, ?_⟩) (by assumption) ?_
      rotate_left 1
      · (intro w hSw; (try dsimp only at hSw); have k0 := hSw.cell 0; have k1 := hSw.cell 1; have k2 := hSw.cell 2; have k3 := hSw.cell 3; have k4 := hSw.cell 4; have k5 := hSw.cell 5; have k6 := hSw.cell 6; have k7 := hSw.cell 7; have k8 := hSw.cell 8; have k9 := hSw.cell 9; have k10 := hSw.cell 10; have k11 := hSw.cell 11; clear hSw; simp only [List.getElem?_toArray, List.getElem?_cons_succ, List.getElem?_cons_zero] at k0 k1 k2 k3 k4 k5 k6 k7 k8 k9 k10 k11; go_simp) <;> (with_reducible rfl)
      try simp only [Act.put, List.setIfInBounds_toArray, List.set_cons_zero, List.set_cons_succ]
      refine wpAnyH_take (i := 8) (oi := ⟨some 81, _, _, _, _, _⟩) (v := ?_) rfl (by kernel_rfl) (by kernel_rfl) (by kernel_rfl) (fun _ _ _ h => h) (Or.inl ⟨by rfl, ?_⟩) (by assumption) ?_
      rotate_left 1
      · (intro w hSw; (try dsimp only at hSw); have k0 := hSw.cell 0; have k1 := hSw.cell 1; have k2 := hSw.cell 2; have k3 := hSw.cell 3; have k4 := hSw.cell 4; have k5 := hSw.cell 5; have k6 := hSw.cell 6; have k7 := hSw.cell 7; have k8 := hSw.cell 8; have k9 := hSw.cell 9; have k10 := hSw.cell 10; have k11 := hSw.cell 11; clear hSw; simp only [List.getElem?_toArray, List.getElem?_cons_succ, List.getElem?_cons_zero] at k0 k1 k2 k3 k4 k5 k6 k7 k8 k9 k10 k11; go_simp) <;> (with_reducible rfl)
      try simp only [Act.put, List.setIfInBounds_toArray, List.set_cons_zero, List.set_cons_succ]
      refine wpAnyH_take (i := 9) (oi := ⟨some 82, _, _, _, _, _⟩) (v := ?_) rfl (by kernel_rfl) (by kernel_rfl) (by kernel_rfl) (fun _ _ _ h => h) (Or.inl ⟨by rfl, ?_⟩) (by assumption) ?_
      rotate_left 1
      · (intro w hSw; (try dsimp only at hSw); have k0 := hSw.cell 0; have k1 := hSw.cell 1; have k2 := hSw.cell 2; have k3 := hSw.cell 3; have k4 := hSw.cell 4; have k5 := hSw.cell 5; have k6 := hSw.cell 6; have k7 := hSw.cell 7; have k8 := hSw.cell 8; have k9 := hSw.cell 9; have k10 := hSw.cell 10; have k11 := hSw.cell 11; clear hSw; simp only [List.getElem?_toArray, List.getElem?_cons_succ, List.getElem?_cons_zero] at k0 k1 k2 k3 k4 k5 k6 k7 k8 k9 k10 k11; go_simp) <;> (with_reducible rfl)
      try simp only [Act.put, List.setIfInBounds_toArray, List.set_cons_zero, List.set_cons_succ]
      refine wpAnyH_take (i := 10) (oi := ⟨some 83, _, _, _, _, _⟩) (v := undef) rfl (by kernel_rfl) (by kernel_rfl) (by kernel_rfl) (fun _ _ _ h => h) (Or.inr ⟨by rfl, rfl⟩) (by assumption) ?_
      try simp only [Act.put, List.setIfInBounds_toArray, List.set_cons_zero, List.set_cons_succ]
      refine wpAnyH_take (i := 11) (oi := ⟨some 84, _, _, _, _, _⟩) (v := undef) rfl (by kernel_rfl) (by kernel_rfl) (by kernel_rfl) (fun _ _ _ h => h) (Or.inr ⟨by rfl, rfl⟩) (by assumption) ?_
      try simp only [Act.put, List.setIfInBounds_toArray, List.set_cons_zero, List.set_cons_succ]
      refine wpAnyH_take (i := 12) (oi := ⟨some 85, _, _, _, _, _⟩) (v := undef) rfl (by kernel_rfl) (by kernel_rfl) (by kernel_rfl) (fun _ _ _ h => h) (Or.inr ⟨by rfl, rfl⟩) (by assumption) ?_
      try simp only [Act.put, List.setIfInBounds_toArray, List.set_cons_zero, List.set_cons_succ]
      refine wpAnyH_take (i := 13) (oi := ⟨some 86, _, _, _, _, _⟩) (v := undef) rfl (by kernel_rfl) (by kernel_rfl) (by kernel_rfl) (fun _ _ _ h => h) (Or.inr ⟨by rfl, rfl⟩) (by assumption) ?_
      try simp only [Act.put, List.setIfInBounds_toArray, List.set_cons_zero, List.set_cons_succ]
      refine wpAnyH_take (i := 14) (oi := ⟨some 87, _, _, _, _, _⟩) (v := undef) rfl (by kernel_rfl) (by kernel_rfl) (by kernel_rfl) (fun _ _ _ h => h) (Or.inr ⟨by rfl, rfl⟩) (by assumption) ?_
      try simp only [Act.put, List.setIfInBounds_toArray, List.set_cons_zero, List.set_cons_succ]
      refine wpAnyH_take (i := 15) (oi := ⟨some 88, _, _, _, _, _⟩) (v := undef) rfl (by kernel_rfl) (by kernel_rfl) (by kernel_rfl) (fun _ _ _ h => h) (Or.inr ⟨by rfl, rfl⟩) (by assumption) ?_
      try simp only [Act.put, List.setIfInBounds_toArray, List.set_cons_zero, List.set_cons_succ]
      refine wpAnyH_take (i := 16) (oi := ⟨some 89, _, _, _, _, _⟩) (v := undef) rfl (by kernel_rfl) (by kernel_rfl) (by kernel_rfl) (fun _ _ _ h => h) (Or.inr ⟨by rfl, rfl⟩) (by assumption) ?_
      try simp only [Act.put, List.setIfInBounds_toArray, List.set_cons_zero, List.set_cons_succ]
      refine wpAnyH_take (i := 17) (oi := ⟨some 90, _, _, _, _, _⟩) (v := undef) rfl (by kernel_rfl) (by kernel_rfl) (by kernel_rfl) (fun _ _ _ h => h) (Or.inr ⟨by rfl, rfl⟩) (by assumption) ?_
      try simp only [Act.put, List.setIfInBounds_toArray, List.set_cons_zero, List.set_cons_succ]
      refine wpAnyH_take (i := 18) (oi := ⟨some 91, _, _, _, _, _⟩) (v := undef) rfl (by kernel_rfl) (by kernel_rfl) (by kernel_rfl) (fun _ _ _ h => h) (Or.inr ⟨by rfl, rfl⟩) (by assumption) ?_
      try simp only [Act.put, List.setIfInBounds_toArray, List.set_cons_zero, List.set_cons_succ]
      refine wpAnyH_take (i := 19) (oi := ⟨some 92, _, _, _, _, _⟩) (v := undef) rfl (by kernel_rfl) (by kernel_rfl) (by kernel_rfl) (fun _ _ _ h => h) (Or.inr ⟨by rfl, rfl⟩) (by assumption) ?_
      try simp only [Act.put, List.setIfInBounds_toArray, List.set_cons_zero, List.set_cons_succ]
      refine wpAnyH_take (i := 20) (oi := ⟨some 93, _, _, _, _, _⟩) (v := undef) rfl (by kernel_rfl) (by kernel_rfl) (by kernel_rfl) (fun _ _ _ h => h) (Or.inr ⟨by rfl, rfl⟩) (by assumption) ?_
      try simp only [Act.put, List.setIfInBounds_toArray, List.set_cons_zero, List.set_cons_succ]
      refine wpAnyH_take (i := 21) (oi := ⟨some 94, _, _, _, _, _⟩) (v := ?_) rfl (by kernel_rfl) (by kernel_rfl) (by kernel_rfl) (fun _ _ _ h => h) (Or.inl ⟨by rfl, ?_⟩) (by assumption) ?_
      rotate_left 1
      · (intro w hSw; (try dsimp only at hSw); have k0 := hSw.cell 0; have k1 := hSw.cell 1; have k2 := hSw.cell 2; have k3 := hSw.cell 3; have k4 := hSw.cell 4; have k5 := hSw.cell 5; have k6 := hSw.cell 6; have k7 := hSw.cell 7; have k8 := hSw.cell 8; have k9 := hSw.cell 9; have k10 := hSw.cell 10; have k11 := hSw.cell 11; clear hSw; simp only [List.getElem?_toArray, List.getElem?_cons_succ, List.getElem?_cons_zero] at k0 k1 k2 k3 k4 k5 k6 k7 k8 k9 k10 k11; go_simp) <;> (with_reducible rfl)
      try simp only [Act.put, List.setIfInBounds_toArray, List.set_cons_zero, List.set_cons_succ]
      refine wpAnyH_take (i := 22) (oi := ⟨some 95, _, _, _, _, _⟩) (v := ?_) rfl (by kernel_rfl) (by kernel_rfl) (by kernel_rfl) (fun _ _ _ h => h) (Or.inl ⟨by rfl, ?_⟩) (by assumption) ?_
      rotate_left 1
      · (intro w hSw; (try dsimp only at hSw); have k0 := hSw.cell 0; have k1 := hSw.cell 1; have k2 := hSw.cell 2; have k3 := hSw.cell 3; have k4 := hSw.cell 4; have k5 := hSw.cell 5; have k6 := hSw.cell 6; have k7 := hSw.cell 7; have k8 := hSw.cell 8; have k9 := hSw.cell 9; have k10 := hSw.cell 10; have k11 := hSw.cell 11; clear hSw; simp only [List.getElem?_toArray, List.getElem?_cons_succ, List.getElem?_cons_zero] at k0 k1 k2 k3 k4 k5 k6 k7 k8 k9 k10 k11; go_simp) <;> (with_reducible rfl)
      try simp only [Act.put, List.setIfInBounds_toArray, List.set_cons_zero, List.set_cons_succ]
      refine wpAnyH_done (by kernel_rfl) ?_ _
      obtain ⟨wv, hwv⟩ : ∃ wv, wv = w7.drew := ⟨_, rfl⟩
      have HFV : Hid (Fr NoBlk w wv) := by show Fr _ _ _; rw [hwv]; exact HF7.out.trans HF9.out
      have HRV : Hid (∀ W, Fr NoBlk wv W → Rd W A4 (imsc itb) ∧ ItsOf W w3.heap.size itb ps) := fun W hW => by
        have h : Fr NoBlk w7 W := by rw [hwv] at hW; exact HF9.out.trans hW
        exact ⟨HR47.out.nofr h, HITB7.out.1, fun j i p hi hp => (HITB7.out.2 j i p hi hp).nofr h⟩
      rw [← hwv]
      clear hwv HR47 HITB7 HSD HAT HF7 HF9
      go_wp2_with fail
      refine (fregion_any _ _).mono ?_
      rintro e wa ⟨g1, b1, rfl, h1, hf1⟩
      obtain ⟨B1, hB1⟩ : ∃ B, B = wv.heap.size := ⟨_, rfl⟩
      rw [← hB1] at h1
      have HBM : Hid (∀ W, Fr (fun b => b = b1 ∨ b = g1) wa W → Fr NoBlk wv W) := fun W hW => hf1.step hW fun i hi e => by have := h1.b1; have := h1.b2; omega
      have H1 := Lib.hid h1
      clear h1 hf1 hB1
      go_wp2_with fail
      go_loopw [102] (fun z wr => ∃ n s : Nat, n ≤ nb ∧ z = .int .i64 n ∧ s ≤ n ∧ Hid (Fl wr B1 g1 b1 s rg (laOf ps n) fun _ => false) ∧ Hid (Fr (fun b => b = b1 ∨ b = g1) wa wr)) (fun z _ => nb - (intOf z).toNat)
      case atStart => exact ⟨0, 0, by omega, rfl, Nat.le_refl _, H1, Fr.refl _ _⟩
      case round =>
        obtain ⟨n, s, hn2, rfl, hs2, HFL, HFW⟩ := hrel
        by_cases hlt : n < nb
        · exfalso
          omega
        have j3 : (nb : Int) ≤ (n : Int) := by omega
        have HFZ := Lib.hid (HFV.out.trans (HBM.out _ HFW.out))
        clear hlt
        go_wp2_with fail
        go_ret
        exact ⟨rfl, HFZ.out⟩
  · obtain ⟨m, hm⟩ : ∃ m, na = m + 1 := ⟨na - 1, by omega⟩
    obtain ⟨b0, o0, v0, e0, hc0, hv0⟩ := HIA.out m hm
    subst hv0
    have m1 : (na : Int) - 1 = (m : Int) := by omega
    have m2 : (m : Int) < (na : Int) := by omega
    have hz0 : (0 : Int) < (na : Int) := by omega
    rw [e0]
    clear hz HIA hm
    go_wp2_with fail
    refine HD3.out.mono ?_
    clear HD3
    rintro e w6 hnx
    clear hz0
    obtain ⟨it, b, rfl, hf6, hat⟩ := hnx.open HPS.out
    obtain ⟨q8, hq8⟩ : ∃ q, q = w6.heap.size := ⟨_, rfl⟩
    obtain ⟨w7, hw7⟩ : ∃ w7, w7 = w6.alloc (.cells (ima it) 40) := ⟨_, rfl⟩
    have hf67 : Fr NoBlk w6 w7 := by rw [hw7]; exact (Fr.refl _ _).alloc _
    have HF7 := Lib.hid ((HF5.out.trans hf6).trans hf67)
    have HB7 : Hid (Bk w7 q8 40 #[.int .i64 it.kind, .int .i64 it.index, .int .i64 it.o.node, .int .u64 (it.o.epoch : Int), .int .u64 (it.o.seq : Int), .int .i64 it.o.tr, .int .i64 it.o.t.kind, .slice it.o.t.ra it.o.t.reads.length it.o.t.rc, .slice it.o.t.wa it.o.t.writes.length it.o.t.wc, .slice it.o.t.oa it.o.t.ops.length it.o.t.oc, .int .i64 it.o.t.to, .slice it.o.ma it.o.marks.length it.o.mc]) := by show Bk _ _ _ _; rw [hw7, hq8]; exact Bk.new _ _ _
    have HAT := Lib.hid (hat.nofr hf67)
    have HR47 : Hid (Rd w7 A4 (imsc itb)) := HR45.out.nofr (hf6.trans hf67)
    have HITB7 : Hid (ItsOf w7 w3.heap.size itb ps) := ⟨HITB5.out.1, fun j i p hi hp => (HITB5.out.2 j i p hi hp).nofr (hf6.trans hf67)⟩
    have HSD : Hid (∀ W, Fr NoBlk w7 W → Bk W q8 40 #[.int .i64 it.kind, .int .i64 it.index, .int .i64 it.o.node, .int .u64 (it.o.epoch : Int), .int .u64 (it.o.seq : Int), .int .i64 it.o.tr, .int .i64 it.o.t.kind, .slice it.o.t.ra it.o.t.reads.length it.o.t.rc, .slice it.o.t.wa it.o.t.writes.length it.o.t.wc, .slice it.o.t.oa it.o.t.ops.length it.o.t.oc, .int .i64 it.o.t.to, .slice it.o.ma it.o.marks.length it.o.mc]) := fun W hW => HB7.out.fr hW fun e => e
    have HW7 := Lib.hid hw7
    have HQ8 := Lib.hid hq8
    clear hnx hf6 hat hq8 hw7 hf67 HR45 HITB5 HF5 HB7
    unfold imv ima
    unfold ima at HW7
    go_wp2_with fail
    rw [← HW7.out, ← HQ8.out]
    clear HW7 HQ8
    by_cases hlt : na < nb
    · obtain ⟨p, hp⟩ : ∃ p, ps[na]? = some p := ⟨_, List.getElem?_eq_getElem (by have := HNB.out; omega)⟩
      obtain ⟨y, hy⟩ : ∃ y, itb[na]? = some y := ⟨_, List.getElem?_eq_getElem (by have := HLB.out; omega)⟩
      obtain ⟨hb, hsm⟩ := HAT.out.yes p (by rw [HLAO.out, find_next HUP.out (by have := HNB.out; omega)]; exact hp)
      subst hb
      obtain ⟨wL, hwL⟩ : ∃ wL, wL = (w7.alloc (.cells #[.int .i64 it.kind, .int .i64 it.index, .int .i64 it.o.node, .int .u64 (it.o.epoch : Int), .int .u64 (it.o.seq : Int), .int .i64 it.o.tr, .int .i64 it.o.t.kind, .slice it.o.t.ra it.o.t.reads.length it.o.t.rc, .slice it.o.t.wa it.o.t.writes.length it.o.t.wc, .slice it.o.t.oa it.o.t.ops.length it.o.t.oc, .int .i64 it.o.t.to, .slice it.o.ma it.o.marks.length it.o.mc] 40)).drew := ⟨_, rfl⟩
      have HFL : Hid (Fr NoBlk w7 wL) := by show Fr _ _ _; rw [hwL]; exact ((Fr.refl _ _).alloc _).drew
      obtain ⟨Ay, hAy⟩ : ∃ Ay, Ay = A4.map fun x => x.add (na * 12) := ⟨_, rfl⟩
      have HSL : Hid (Calls Try.prog 37 #[.slice (some ⟨w7.heap.size, 0, none⟩) 1 1, .slice Ay 1 (kb - na)] wL fun e w' => e = .returned (.bool true) ∧ Fr NoBlk wL w') := by
        have hyp := HITB7.out.2 na y p hy hp
        have hrl : Rd wL (some ⟨w7.heap.size, 0, none⟩) (imsc [it]) := by
          rw [hwL]
          exact (Rd.of_cells (cs := #[.int .i64 it.kind, .int .i64 it.index, .int .i64 it.o.node, .int .u64 (it.o.epoch : Int), .int .u64 (it.o.seq : Int), .int .i64 it.o.tr, .int .i64 it.o.t.kind, .slice it.o.t.ra it.o.t.reads.length it.o.t.rc, .slice it.o.t.wa it.o.t.writes.length it.o.t.wc, .slice it.o.t.oa it.o.t.ops.length it.o.t.oc, .int .i64 it.o.t.to, .slice it.o.ma it.o.marks.length it.o.mc]) (Bk.new w7 40 #[.int .i64 it.kind, .int .i64 it.index, .int .i64 it.o.node, .int .u64 (it.o.epoch : Int), .int .u64 (it.o.seq : Int), .int .i64 it.o.tr, .int .i64 it.o.t.kind, .slice it.o.t.ra it.o.t.reads.length it.o.t.rc, .slice it.o.t.wa it.o.t.writes.length it.o.t.wc, .slice it.o.t.oa it.o.t.ops.length it.o.t.oc, .int .i64 it.o.t.to, .slice it.o.ma it.o.marks.length it.o.mc])).nofr (Fr.refl _ _).drew
        have hry : Rd wL Ay (imsc [y]) := by
          rw [hAy]
          have h := (cutW (HR47.out.nofr HFL.out) (na * 12)).take 12
          rw [← imsc_drop, show 12 = 1 * 12 from rfl, ← imsc_take] at h
          rw [show [y] = (itb.drop na).take 1 by rw [List.take_one, List.head?_drop, hy]; rfl]
          exact h
        refine same15_any wL _ _ 1 1 (kb - na) [it] [y] rfl rfl (by omega) hrl hry (fun i hi => ?_) (fun i hi => ?_) (fun j a d ha hd => ?_)
        · rw [List.mem_singleton.1 hi]
          exact ⟨HAT.out.inn.nofr HFL.out, HAT.out.small⟩
        · rw [List.mem_singleton.1 hi]
          exact ⟨hyp.inn.nofr HFL.out, hyp.like.small (HPS.out p (List.mem_of_getElem? hp))⟩
        · cases j with
          | zero =>
            injection ha with ha
            injection hd with hd
            subst ha hd
            exact ItOf.of_same hsm hyp
          | succ j => cases ha
      have HWL := Lib.hid hwL
      have i1 : (na : Int) < (nb : Int) := by omega
      obtain ⟨na1, hna1⟩ : ∃ n, n = na + 1 := ⟨_, rfl⟩
      have i2 : (na1 : Int) ≤ (kb : Int) := by omega
      have i3 : na ≤ na1 := by omega
      have hs1 : na1 - na = 1 := by omega
      have hw1 : IntKind.i64.wrap ((na : Int) + 1) = (na1 : Int) := by rw [show (na : Int) + 1 = (na1 : Int) by omega]; exact IntWalk.i64_in _ (by omega)
      have hne : ¬ kb = na := by omega
      have HAY := Lib.hid hAy
      clear hp hy hsm hwL hlt hna1 hAy
      refine wp_region_held_drew (S := fun w' => Bk w' q8 40 #[.int .i64 it.kind, .int .i64 it.index, .int .i64 it.o.node, .int .u64 (it.o.epoch : Int), .int .u64 (it.o.seq : Int), .int .i64 it.o.tr, .int .i64 it.o.t.kind, .slice it.o.t.ra it.o.t.reads.length it.o.t.rc, .slice it.o.t.wa it.o.t.writes.length it.o.t.wc, .slice it.o.t.oa it.o.t.ops.length it.o.t.oc, .int .i64 it.o.t.to, .slice it.o.ma it.o.marks.length it.o.mc]) (by kernel_rfl) (HSD.out _ (Fr.refl _ _).drew) (fun hHeld => ?_)
      refine wpAnyH_take (i := 0) (oi := ⟨some 73, _, _, _, _, _⟩) (v := ?_) rfl (by kernel_rfl) (by kernel_rfl) (by kernel_rfl) (fun _ _ _ h => h) (Or.inl ⟨by rfl, ?_⟩) (by assumption) ?_
      rotate_left 1
      · (intro w hSw; (try dsimp only at hSw); have k0 := hSw.cell 0; have k1 := hSw.cell 1; have k2 := hSw.cell 2; have k3 := hSw.cell 3; have k4 := hSw.cell 4; have k5 := hSw.cell 5; have k6 := hSw.cell 6; have k7 := hSw.cell 7; have k8 := hSw.cell 8; have k9 := hSw.cell 9; have k10 := hSw.cell 10; have k11 := hSw.cell 11; clear hSw; simp only [List.getElem?_toArray, List.getElem?_cons_succ, List.getElem?_cons_zero] at k0 k1 k2 k3 k4 k5 k6 k7 k8 k9 k10 k11; go_simp) <;> (with_reducible rfl)
      try simp only [Act.put, List.setIfInBounds_toArray, List.set_cons_zero, List.set_cons_succ]
      refine wpAnyH_take (i := 1) (oi := ⟨some 74, _, _, _, _, _⟩) (v := ?_) rfl (by kernel_rfl) (by kernel_rfl) (by kernel_rfl) (fun _ _ _ h => h) (Or.inl ⟨by rfl, ?_⟩) (by assumption) ?_
      rotate_left 1
      · (intro w hSw; (try dsimp only at hSw); have k0 := hSw.cell 0; have k1 := hSw.cell 1; have k2 := hSw.cell 2; have k3 := hSw.cell 3; have k4 := hSw.cell 4; have k5 := hSw.cell 5; have k6 := hSw.cell 6; have k7 := hSw.cell 7; have k8 := hSw.cell 8; have k9 := hSw.cell 9; have k10 := hSw.cell 10; have k11 := hSw.cell 11; clear hSw; simp only [List.getElem?_toArray, List.getElem?_cons_succ, List.getElem?_cons_zero] at k0 k1 k2 k3 k4 k5 k6 k7 k8 k9 k10 k11; go_simp) <;> (with_reducible rfl)
      try simp only [Act.put, List.setIfInBounds_toArray, List.set_cons_zero, List.set_cons_succ]
      refine wpAnyH_take (i := 2) (oi := ⟨some 75, _, _, _, _, _⟩) (v := ?_) rfl (by kernel_rfl) (by kernel_rfl) (by kernel_rfl) (fun _ _ _ h => h) (Or.inl ⟨by rfl, ?_⟩) (by assumption) ?_
      rotate_left 1
      · (intro w hSw; (try dsimp only at hSw); have k0 := hSw.cell 0; have k1 := hSw.cell 1; have k2 := hSw.cell 2; have k3 := hSw.cell 3; have k4 := hSw.cell 4; have k5 := hSw.cell 5; have k6 := hSw.cell 6; have k7 := hSw.cell 7; have k8 := hSw.cell 8; have k9 := hSw.cell 9; have k10 := hSw.cell 10; have k11 := hSw.cell 11; clear hSw; simp only [List.getElem?_toArray, List.getElem?_cons_succ, List.getElem?_cons_zero] at k0 k1 k2 k3 k4 k5 k6 k7 k8 k9 k10 k11; go_simp) <;> (with_reducible rfl)
      try simp only [Act.put, List.setIfInBounds_toArray, List.set_cons_zero, List.set_cons_succ]
      refine wpAnyH_take (i := 3) (oi := ⟨some 76, _, _, _, _, _⟩) (v := ?_) rfl (by kernel_rfl) (by kernel_rfl) (by kernel_rfl) (fun _ _ _ h => h) (Or.inl ⟨by rfl, ?_⟩) (by assumption) ?_
      rotate_left 1
      · (intro w hSw; (try dsimp only at hSw); have k0 := hSw.cell 0; have k1 := hSw.cell 1; have k2 := hSw.cell 2; have k3 := hSw.cell 3; have k4 := hSw.cell 4; have k5 := hSw.cell 5; have k6 := hSw.cell 6; have k7 := hSw.cell 7; have k8 := hSw.cell 8; have k9 := hSw.cell 9; have k10 := hSw.cell 10; have k11 := hSw.cell 11; clear hSw; simp only [List.getElem?_toArray, List.getElem?_cons_succ, List.getElem?_cons_zero] at k0 k1 k2 k3 k4 k5 k6 k7 k8 k9 k10 k11; go_simp) <;> (with_reducible rfl)
      try simp only [Act.put, List.setIfInBounds_toArray, List.set_cons_zero, List.set_cons_succ]
      refine wpAnyH_take (i := 4) (oi := ⟨some 77, _, _, _, _, _⟩) (v := ?_) rfl (by kernel_rfl) (by kernel_rfl) (by kernel_rfl) (fun _ _ _ h => h) (Or.inl ⟨by rfl, ?_⟩) (by assumption) ?_
      rotate_left 1
      · (intro w hSw; (try dsimp only at hSw); have k0 := hSw.cell 0; have k1 := hSw.cell 1; have k2 := hSw.cell 2; have k3 := hSw.cell 3; have k4 := hSw.cell 4; have k5 := hSw.cell 5; have k6 := hSw.cell 6; have k7 := hSw.cell 7; have k8 := hSw.cell 8; have k9 := hSw.cell 9; have k10 := hSw.cell 10; have k11 := hSw.cell 11; clear hSw; simp only [List.getElem?_toArray, List.getElem?_cons_succ, List.getElem?_cons_zero] at k0 k1 k2 k3 k4 k5 k6 k7 k8 k9 k10 k11; go_simp) <;> (with_reducible rfl)
      try simp only [Act.put, List.setIfInBounds_toArray, List.set_cons_zero, List.set_cons_succ]
      refine wpAnyH_take (i := 5) (oi := ⟨some 78, _, _, _, _, _⟩) (v := ?_) rfl (by kernel_rfl) (by kernel_rfl) (by kernel_rfl) (fun _ _ _ h => h) (Or.inl ⟨by rfl, ?_⟩) (by assumption) ?_
      rotate_left 1
      · (intro w hSw; (try dsimp only at hSw); have k0 := hSw.cell 0; have k1 := hSw.cell 1; have k2 := hSw.cell 2; have k3 := hSw.cell 3; have k4 := hSw.cell 4; have k5 := hSw.cell 5; have k6 := hSw.cell 6; have k7 := hSw.cell 7; have k8 := hSw.cell 8; have k9 := hSw.cell 9; have k10 := hSw.cell 10; have k11 := hSw.cell 11; clear hSw; simp only [List.getElem?_toArray, List.getElem?_cons_succ, List.getElem?_cons_zero] at k0 k1 k2 k3 k4 k5 k6 k7 k8 k9 k10 k11; go_simp) <;> (with_reducible rfl)
      try simp only [Act.put, List.setIfInBounds_toArray, List.set_cons_zero, List.set_cons_succ]
      refine wpAnyH_take (i := 6) (oi := ⟨some 79, _, _, _, _, _⟩) (v := ?_) rfl (by kernel_rfl) (by kernel_rfl) (by kernel_rfl) (fun _ _ _ h => h) (Or.inl ⟨by rfl, ?_⟩) (by assumption) ?_
      rotate_left 1
      · (intro w hSw; (try dsimp only at hSw); have k0 := hSw.cell 0; have k1 := hSw.cell 1; have k2 := hSw.cell 2; have k3 := hSw.cell 3; have k4 := hSw.cell 4; have k5 := hSw.cell 5; have k6 := hSw.cell 6; have k7 := hSw.cell 7; have k8 := hSw.cell 8; have k9 := hSw.cell 9; have k10 := hSw.cell 10; have k11 := hSw.cell 11; clear hSw; simp only [List.getElem?_toArray, List.getElem?_cons_succ, List.getElem?_cons_zero] at k0 k1 k2 k3 k4 k5 k6 k7 k8 k9 k10 k11; go_simp) <;> (with_reducible rfl)
      try simp only [Act.put, List.setIfInBounds_toArray, List.set_cons_zero, List.set_cons_succ]
      refine wpAnyH_take (i := 7) (oi := ⟨some 80, _, _, _, _, _⟩) (v := ?_) rfl (by kernel_rfl) (by kernel_rfl) (by kernel_rfl) (fun _ _ _ h => h) (Or.inl ⟨by rfl, ?_⟩) (by assumption) ?_
      rotate_left 1
      · (intro w hSw; (try dsimp only at hSw); have k0 := hSw.cell 0; have k1 := hSw.cell 1; have k2 := hSw.cell 2; have k3 := hSw.cell 3; have k4 := hSw.cell 4; have k5 := hSw.cell 5; have k6 := hSw.cell 6; have k7 := hSw.cell 7; have k8 := hSw.cell 8; have k9 := hSw.cell 9; have k10 := hSw.cell 10; have k11 := hSw.cell 11; clear hSw; simp only [List.getElem?_toArray, List.getElem?_cons_succ, List.getElem?_cons_zero] at k0 k1 k2 k3 k4 k5 k6 k7 k8 k9 k10 k11; go_simp) <;> (with_reducible rfl)
      try simp only [Act.put, List.setIfInBounds_toArray, List.set_cons_zero, List.set_cons_succ]
      refine wpAnyH_take (i := 8) (oi := ⟨some 81, _, _, _, _, _⟩) (v := ?_) rfl (by kernel_rfl) (by kernel_rfl) (by kernel_rfl) (fun _ _ _ h => h) (Or.inl ⟨by rfl, ?_⟩) (by assumption) ?_
      rotate_left 1
      · (intro w hSw; (try dsimp only at hSw); have k0 := hSw.cell 0; have k1 := hSw.cell 1; have k2 := hSw.cell 2; have k3 := hSw.cell 3; have k4 := hSw.cell 4; have k5 := hSw.cell 5; have k6 := hSw.cell 6; have k7 := hSw.cell 7; have k8 := hSw.cell 8; have k9 := hSw.cell 9; have k10 := hSw.cell 10; have k11 := hSw.cell 11; clear hSw; simp only [List.getElem?_toArray, List.getElem?_cons_succ, List.getElem?_cons_zero] at k0 k1 k2 k3 k4 k5 k6 k7 k8 k9 k10 k11; go_simp) <;> (with_reducible rfl)
      try simp only [Act.put, List.setIfInBounds_toArray, List.set_cons_zero, List.set_cons_succ]
      refine wpAnyH_take (i := 9) (oi := ⟨some 82, _, _, _, _, _⟩) (v := ?_) rfl (by kernel_rfl) (by kernel_rfl) (by kernel_rfl) (fun _ _ _ h => h) (Or.inl ⟨by rfl, ?_⟩) (by assumption) ?_
      rotate_left 1
      · (intro w hSw; (try dsimp only at hSw); have k0 := hSw.cell 0; have k1 := hSw.cell 1; have k2 := hSw.cell 2; have k3 := hSw.cell 3; have k4 := hSw.cell 4; have k5 := hSw.cell 5; have k6 := hSw.cell 6; have k7 := hSw.cell 7; have k8 := hSw.cell 8; have k9 := hSw.cell 9; have k10 := hSw.cell 10; have k11 := hSw.cell 11; clear hSw; simp only [List.getElem?_toArray, List.getElem?_cons_succ, List.getElem?_cons_zero] at k0 k1 k2 k3 k4 k5 k6 k7 k8 k9 k10 k11; go_simp) <;> (with_reducible rfl)
      try simp only [Act.put, List.setIfInBounds_toArray, List.set_cons_zero, List.set_cons_succ]
      refine wpAnyH_take (i := 10) (oi := ⟨some 83, _, _, _, _, _⟩) (v := ?_) rfl (by kernel_rfl) (by kernel_rfl) (by kernel_rfl) (fun _ _ _ h => h) (Or.inl ⟨by rfl, ?_⟩) (by assumption) ?_
      rotate_left 1
      · (intro w hSw; (try dsimp only at hSw); have k0 := hSw.cell 0; have k1 := hSw.cell 1; have k2 := hSw.cell 2; have k3 := hSw.cell 3; have k4 := hSw.cell 4; have k5 := hSw.cell 5; have k6 := hSw.cell 6; have k7 := hSw.cell 7; have k8 := hSw.cell 8; have k9 := hSw.cell 9; have k10 := hSw.cell 10; have k11 := hSw.cell 11; clear hSw; simp only [List.getElem?_toArray, List.getElem?_cons_succ, List.getElem?_cons_zero] at k0 k1 k2 k3 k4 k5 k6 k7 k8 k9 k10 k11; go_simp) <;> (with_reducible rfl)
      try simp only [Act.put, List.setIfInBounds_toArray, List.set_cons_zero, List.set_cons_succ]
      refine wpAnyH_take (i := 12) (oi := ⟨some 85, _, _, _, _, _⟩) (v := ?_) rfl (by kernel_rfl) (by kernel_rfl) (by kernel_rfl) (fun _ _ _ h => h) (Or.inl ⟨by rfl, ?_⟩) (by assumption) ?_
      rotate_left 1
      · (intro w hSw; (try dsimp only at hSw); have k0 := hSw.cell 0; have k1 := hSw.cell 1; have k2 := hSw.cell 2; have k3 := hSw.cell 3; have k4 := hSw.cell 4; have k5 := hSw.cell 5; have k6 := hSw.cell 6; have k7 := hSw.cell 7; have k8 := hSw.cell 8; have k9 := hSw.cell 9; have k10 := hSw.cell 10; have k11 := hSw.cell 11; clear hSw; simp only [List.getElem?_toArray, List.getElem?_cons_succ, List.getElem?_cons_zero] at k0 k1 k2 k3 k4 k5 k6 k7 k8 k9 k10 k11; go_simp) <;> (with_reducible rfl)
      try simp only [Act.put, List.setIfInBounds_toArray, List.set_cons_zero, List.set_cons_succ]
      refine wpAnyH_take (i := 13) (oi := ⟨some 86, _, _, _, _, _⟩) (v := ?_) rfl (by kernel_rfl) (by kernel_rfl) (by kernel_rfl) (fun _ _ _ h => h) (Or.inl ⟨by rfl, ?_⟩) (by assumption) ?_
      rotate_left 1
      · (intro w hSw; (try dsimp only at hSw); have k0 := hSw.cell 0; have k1 := hSw.cell 1; have k2 := hSw.cell 2; have k3 := hSw.cell 3; have k4 := hSw.cell 4; have k5 := hSw.cell 5; have k6 := hSw.cell 6; have k7 := hSw.cell 7; have k8 := hSw.cell 8; have k9 := hSw.cell 9; have k10 := hSw.cell 10; have k11 := hSw.cell 11; clear hSw; simp only [List.getElem?_toArray, List.getElem?_cons_succ, List.getElem?_cons_zero] at k0 k1 k2 k3 k4 k5 k6 k7 k8 k9 k10 k11; go_simp) <;> (with_reducible rfl)
      try simp only [Act.put, List.setIfInBounds_toArray, List.set_cons_zero, List.set_cons_succ]
      refine wpAnyH_take (i := 14) (oi := ⟨some 87, _, _, _, _, _⟩) (v := ?_) rfl (by kernel_rfl) (by kernel_rfl) (by kernel_rfl) (fun _ _ _ h => h) (Or.inl ⟨by rfl, ?_⟩) (by assumption) ?_
      rotate_left 1
      · (intro w hSw; (try dsimp only at hSw); have k0 := hSw.cell 0; have k1 := hSw.cell 1; have k2 := hSw.cell 2; have k3 := hSw.cell 3; have k4 := hSw.cell 4; have k5 := hSw.cell 5; have k6 := hSw.cell 6; have k7 := hSw.cell 7; have k8 := hSw.cell 8; have k9 := hSw.cell 9; have k10 := hSw.cell 10; have k11 := hSw.cell 11; clear hSw; simp only [List.getElem?_toArray, List.getElem?_cons_succ, List.getElem?_cons_zero] at k0 k1 k2 k3 k4 k5 k6 k7 k8 k9 k10 k11; go_simp) <;> (with_reducible rfl)
      try simp only [Act.put, List.setIfInBounds_toArray, List.set_cons_zero, List.set_cons_succ]
      refine wpAnyH_take (i := 15) (oi := ⟨some 88, _, _, _, _, _⟩) (v := ?_) rfl (by kernel_rfl) (by kernel_rfl) (by kernel_rfl) (fun _ _ _ h => h) (Or.inl ⟨by rfl, ?_⟩) (by assumption) ?_
      rotate_left 1
      · (intro w hSw; (try dsimp only at hSw); have k0 := hSw.cell 0; have k1 := hSw.cell 1; have k2 := hSw.cell 2; have k3 := hSw.cell 3; have k4 := hSw.cell 4; have k5 := hSw.cell 5; have k6 := hSw.cell 6; have k7 := hSw.cell 7; have k8 := hSw.cell 8; have k9 := hSw.cell 9; have k10 := hSw.cell 10; have k11 := hSw.cell 11; clear hSw; simp only [List.getElem?_toArray, List.getElem?_cons_succ, List.getElem?_cons_zero] at k0 k1 k2 k3 k4 k5 k6 k7 k8 k9 k10 k11; go_simp) <;> (with_reducible rfl)
      try simp only [Act.put, List.setIfInBounds_toArray, List.set_cons_zero, List.set_cons_succ]
      refine wpAnyH_take (i := 16) (oi := ⟨some 89, _, _, _, _, _⟩) (v := ?_) rfl (by kernel_rfl) (by kernel_rfl) (by kernel_rfl) (fun _ _ _ h => h) (Or.inl ⟨by rfl, ?_⟩) (by assumption) ?_
      rotate_left 1
      · (intro w hSw; (try dsimp only at hSw); have k0 := hSw.cell 0; have k1 := hSw.cell 1; have k2 := hSw.cell 2; have k3 := hSw.cell 3; have k4 := hSw.cell 4; have k5 := hSw.cell 5; have k6 := hSw.cell 6; have k7 := hSw.cell 7; have k8 := hSw.cell 8; have k9 := hSw.cell 9; have k10 := hSw.cell 10; have k11 := hSw.cell 11; clear hSw; simp only [List.getElem?_toArray, List.getElem?_cons_succ, List.getElem?_cons_zero] at k0 k1 k2 k3 k4 k5 k6 k7 k8 k9 k10 k11; go_simp) <;> (with_reducible rfl)
      try simp only [Act.put, List.setIfInBounds_toArray, List.set_cons_zero, List.set_cons_succ]
      refine wpAnyH_take (i := 17) (oi := ⟨some 90, _, _, _, _, _⟩) (v := ?_) rfl (by kernel_rfl) (by kernel_rfl) (by kernel_rfl) (fun _ _ _ h => h) (Or.inl ⟨by rfl, ?_⟩) (by assumption) ?_
      rotate_left 1
      · (intro w hSw; (try dsimp only at hSw); have k0 := hSw.cell 0; have k1 := hSw.cell 1; have k2 := hSw.cell 2; have k3 := hSw.cell 3; have k4 := hSw.cell 4; have k5 := hSw.cell 5; have k6 := hSw.cell 6; have k7 := hSw.cell 7; have k8 := hSw.cell 8; have k9 := hSw.cell 9; have k10 := hSw.cell 10; have k11 := hSw.cell 11; clear hSw; simp only [List.getElem?_toArray, List.getElem?_cons_succ, List.getElem?_cons_zero] at k0 k1 k2 k3 k4 k5 k6 k7 k8 k9 k10 k11; go_simp) <;> (with_reducible rfl)
      try simp only [Act.put, List.setIfInBounds_toArray, List.set_cons_zero, List.set_cons_succ]
      refine wpAnyH_take (i := 18) (oi := ⟨some 91, _, _, _, _, _⟩) (v := ?_) rfl (by kernel_rfl) (by kernel_rfl) (by kernel_rfl) (fun _ _ _ h => h) (Or.inl ⟨by rfl, ?_⟩) (by assumption) ?_
      rotate_left 1
      · (intro w hSw; (try dsimp only at hSw); have k0 := hSw.cell 0; have k1 := hSw.cell 1; have k2 := hSw.cell 2; have k3 := hSw.cell 3; have k4 := hSw.cell 4; have k5 := hSw.cell 5; have k6 := hSw.cell 6; have k7 := hSw.cell 7; have k8 := hSw.cell 8; have k9 := hSw.cell 9; have k10 := hSw.cell 10; have k11 := hSw.cell 11; clear hSw; simp only [List.getElem?_toArray, List.getElem?_cons_succ, List.getElem?_cons_zero] at k0 k1 k2 k3 k4 k5 k6 k7 k8 k9 k10 k11; go_simp) <;> (with_reducible rfl)
      try simp only [Act.put, List.setIfInBounds_toArray, List.set_cons_zero, List.set_cons_succ]
      rw [← HAY.out]
      refine wpAnyH_ready (rs := [11]) (by kernel_rfl) (by simp) ?_
      refine AllReadyH.cons (o := ⟨some 84, _, _, _, _, _⟩) rfl (fun K hK => ?_) AllReadyH.nil
      go_simp
      rw [← HWL.out]
      refine hK.out _ _ ?_ (fun hHeld => ?_)
      · exact HSD.out _ HFL.out
      clear hK K
      try simp only [Act.put, List.setIfInBounds_toArray, List.set_cons_zero, List.set_cons_succ]
      refine wpAnyH_ready (rs := [19]) (by kernel_rfl) (by simp) ?_
      refine AllReadyH.cons (o := ⟨some 92, _, _, _, _, _⟩) rfl (fun K hK => ?_) AllReadyH.nil
      go_simp
      go_at_call 37
      refine HSL.out.mono ?_
      clear HSL hHeld
      rintro e w9 ⟨he, hf9⟩
      obtain rfl : e = .returned (.bool true) := he
      have HF9 : Hid (Fr NoBlk w7 w9) := HFL.out.trans hf9
      clear hf9
      refine hK.out _ _ ?_ (fun hHeld => ?_)
      · exact HSD.out _ HF9.out
      clear hK K
      try simp only [Act.put, List.setIfInBounds_toArray, List.set_cons_zero, List.set_cons_succ]
      refine wpAnyH_take (i := 20) (oi := ⟨some 93, _, _, _, _, _⟩) (v := ?_) rfl (by kernel_rfl) (by kernel_rfl) (by kernel_rfl) (fun _ _ _ h => h) (Or.inl ⟨by rfl, ?_⟩) (by assumption) ?_
      rotate_left 1
      · (intro w hSw; (try dsimp only at hSw); have k0 := hSw.cell 0; have k1 := hSw.cell 1; have k2 := hSw.cell 2; have k3 := hSw.cell 3; have k4 := hSw.cell 4; have k5 := hSw.cell 5; have k6 := hSw.cell 6; have k7 := hSw.cell 7; have k8 := hSw.cell 8; have k9 := hSw.cell 9; have k10 := hSw.cell 10; have k11 := hSw.cell 11; clear hSw; simp only [List.getElem?_toArray, List.getElem?_cons_succ, List.getElem?_cons_zero] at k0 k1 k2 k3 k4 k5 k6 k7 k8 k9 k10 k11; go_simp) <;> (with_reducible rfl)
      try simp only [Act.put, List.setIfInBounds_toArray, List.set_cons_zero, List.set_cons_succ]
      refine wpAnyH_take (i := 21) (oi := ⟨some 94, _, _, _, _, _⟩) (v := ?_) rfl (by kernel_rfl) (by kernel_rfl) (by kernel_rfl) (fun _ _ _ h => h) (Or.inl ⟨by rfl, ?_⟩) (by assumption) ?_
      rotate_left 1
      · (intro w hSw; (try dsimp only at hSw); have k0 := hSw.cell 0; have k1 := hSw.cell 1; have k2 := hSw.cell 2; have k3 := hSw.cell 3; have k4 := hSw.cell 4; have k5 := hSw.cell 5; have k6 := hSw.cell 6; have k7 := hSw.cell 7; have k8 := hSw.cell 8; have k9 := hSw.cell 9; have k10 := hSw.cell 10; have k11 := hSw.cell 11; clear hSw; simp only [List.getElem?_toArray, List.getElem?_cons_succ, List.getElem?_cons_zero] at k0 k1 k2 k3 k4 k5 k6 k7 k8 k9 k10 k11; go_simp) <;> (with_reducible rfl)
      try simp only [Act.put, List.setIfInBounds_toArray, List.set_cons_zero, List.set_cons_succ]
      refine wpAnyH_take (i := 22) (oi := ⟨some 95, _, _, _, _, _⟩) (v := ?_) rfl (by kernel_rfl) (by kernel_rfl) (by kernel_rfl) (fun _ _ _ h => h) (Or.inl ⟨by rfl, ?_⟩) (by assumption) ?_
      rotate_left 1
      · (intro w hSw; (try dsimp only at hSw); have k0 := hSw.cell 0; have k1 := hSw.cell 1; have k2 := hSw.cell 2; have k3 := hSw.cell 3; have k4 := hSw.cell 4; have k5 := hSw.cell 5; have k6 := hSw.cell 6; have k7 := hSw.cell 7; have k8 := hSw.cell 8; have k9 := hSw.cell 9; have k10 := hSw.cell 10; have k11 := hSw.cell 11; clear hSw; simp only [List.getElem?_toArray, List.getElem?_cons_succ, List.getElem?_cons_zero] at k0 k1 k2 k3 k4 k5 k6 k7 k8 k9 k10 k11; go_simp) <;> (with_reducible rfl)
      try simp only [Act.put, List.setIfInBounds_toArray, List.set_cons_zero, List.set_cons_succ]
      refine wpAnyH_done (by kernel_rfl) ?_ _
      obtain ⟨wv, hwv⟩ : ∃ wv, wv = w9 := ⟨_, rfl⟩
      have HFV : Hid (Fr NoBlk w wv) := by show Fr _ _ _; rw [hwv]; exact HF7.out.trans HF9.out
      have HRV : Hid (∀ W, Fr NoBlk wv W → Rd W A4 (imsc itb) ∧ ItsOf W w3.heap.size itb ps) := fun W hW => by
        have h : Fr NoBlk w7 W := by rw [hwv] at hW; exact HF9.out.trans hW
        exact ⟨HR47.out.nofr h, HITB7.out.1, fun j i p hi hp => (HITB7.out.2 j i p hi hp).nofr h⟩
      rw [← hwv]
      clear hwv HR47 HITB7 HSD HAT HF7 HF9
      go_wp2_with fail
      refine (fregion_any _ _).mono ?_
      rintro e wa ⟨g1, b1, rfl, h1, hf1⟩
      obtain ⟨B1, hB1⟩ : ∃ B, B = wv.heap.size := ⟨_, rfl⟩
      rw [← hB1] at h1
      have HBM : Hid (∀ W, Fr (fun b => b = b1 ∨ b = g1) wa W → Fr NoBlk wv W) := fun W hW => hf1.step hW fun i hi e => by have := h1.b1; have := h1.b2; omega
      have H1 := Lib.hid h1
      clear h1 hf1 hB1
      go_wp2_with fail
      go_loopw [102] (fun z wr => ∃ n s : Nat, n ≤ nb ∧ z = .int .i64 n ∧ s ≤ n ∧ Hid (Fl wr B1 g1 b1 s rg (laOf ps n) fun _ => false) ∧ Hid (Fr (fun b => b = b1 ∨ b = g1) wa wr)) (fun z _ => nb - (intOf z).toNat)
      case atStart => exact ⟨0, 0, by omega, rfl, Nat.le_refl _, H1, Fr.refl _ _⟩
      case round =>
        obtain ⟨n, s, hn2, rfl, hs2, HFL, HFW⟩ := hrel
        by_cases hlt : n < nb
        · obtain ⟨p, hp⟩ : ∃ p, ps[n]? = some p := ⟨_, List.getElem?_eq_getElem (by have := HNB.out; omega)⟩
          obtain ⟨x, hx⟩ : ∃ x, itb[n]? = some x := ⟨_, List.getElem?_eq_getElem (by have := HLB.out; omega)⟩
          obtain ⟨hrd, hits⟩ := HRV.out _ (HBM.out _ HFW.out)
          have hxp := hits.2 n x p hx hp
          obtain ⟨pb, po, rfl, hc⟩ := hrd.icells hx
          obtain ⟨c0, c1, c2, c3, c4, c5, c6, c7, c8, c9, c10, c11⟩ := hc
          obtain ⟨q, hq⟩ : ∃ q, q = wr.heap.size := ⟨_, rfl⟩
          obtain ⟨w8, hw8⟩ : ∃ w8, w8 = wr.alloc (.cells #[.int .i64 x.kind, .int .i64 x.index, .int .i64 x.o.node, .int .u64 (x.o.epoch : Int), .int .u64 (x.o.seq : Int), .int .i64 x.o.tr, .int .i64 x.o.t.kind, .slice x.o.t.ra x.o.t.reads.length x.o.t.rc, .slice x.o.t.wa x.o.t.writes.length x.o.t.wc, .slice x.o.t.oa x.o.t.ops.length x.o.t.oc, .int .i64 x.o.t.to, .slice x.o.ma x.o.marks.length x.o.mc] 40) := ⟨_, rfl⟩
          have hf8 : Fr NoBlk wr w8 := by rw [hw8]; exact (Fr.refl _ _).alloc _
          have hbp : Bk w8 q 40 #[.int .i64 x.kind, .int .i64 x.index, .int .i64 x.o.node, .int .u64 (x.o.epoch : Int), .int .u64 (x.o.seq : Int), .int .i64 x.o.tr, .int .i64 x.o.t.kind, .slice x.o.t.ra x.o.t.reads.length x.o.t.rc, .slice x.o.t.wa x.o.t.writes.length x.o.t.wc, .slice x.o.t.oa x.o.t.ops.length x.o.t.oc, .int .i64 x.o.t.to, .slice x.o.ma x.o.marks.length x.o.mc] := by rw [hw8, hq]; exact Bk.new _ _ _
          have hpm := List.mem_of_getElem? hp
          have HI : Hid (Calls Try.prog 19 #[.pointer (some ⟨g1, 0, none⟩), imv x] w8 fun e w' => e = .returned (.bool true) ∧ (∃ s', s' ≤ s + 1 ∧ Fl w' B1 g1 b1 s' rg (laOf ps (n + 1)) fun _ => false) ∧ Fr (fun b => b = b1 ∨ b = g1) w8 w') := by
            have htg : tgOf x.o = tgOf p.2 := by unfold tgOf; rw [hxp.like.node, hxp.like.epoch, hxp.like.seq, hxp.like.tr]
            have h := fitem_any w8 B1 g1 b1 s rg (laOf ps n) (fun _ => false) (HFL.out.nofr hf8) (by omega) x (hxp.inn.nofr hf8) (by rw [hxp.like.marks]; have := (HPS.out p hpm).m; omega) (by rw [htg]; exact (HX.out _ (HPM.out p hpm)).2)
            obtain ⟨e1, e2, e3⟩ := count_piece hxp (HPC.out p hpm) (laOf_lt HUP.out hp) fun _ => false
            unfold ItemPost at h
            rw [e1, e2, e3, ← laOf_succ hp] at h
            exact h
          have HFW8 := Lib.hid (HFW.out.trans (hf8.mono fun _ _ e => e.elim))
          have d0 : w8.cell? ⟨q, 0, none⟩ = some (.int .i64 x.kind) := hbp.cell 0
          have d1 : w8.cell? ⟨q, 1, none⟩ = some (.int .i64 x.index) := hbp.cell 1
          have d2 : w8.cell? ⟨q, 2, none⟩ = some (.int .i64 x.o.node) := hbp.cell 2
          have d3 : w8.cell? ⟨q, 3, none⟩ = some (.int .u64 (x.o.epoch : Int)) := hbp.cell 3
          have d4 : w8.cell? ⟨q, 4, none⟩ = some (.int .u64 (x.o.seq : Int)) := hbp.cell 4
          have d5 : w8.cell? ⟨q, 5, none⟩ = some (.int .i64 x.o.tr) := hbp.cell 5
          have d6 : w8.cell? ⟨q, 6, none⟩ = some (.int .i64 x.o.t.kind) := hbp.cell 6
          have d7 : w8.cell? ⟨q, 7, none⟩ = some (.slice x.o.t.ra x.o.t.reads.length x.o.t.rc) := hbp.cell 7
          have d8 : w8.cell? ⟨q, 8, none⟩ = some (.slice x.o.t.wa x.o.t.writes.length x.o.t.wc) := hbp.cell 8
          have d9 : w8.cell? ⟨q, 9, none⟩ = some (.slice x.o.t.oa x.o.t.ops.length x.o.t.oc) := hbp.cell 9
          have d10 : w8.cell? ⟨q, 10, none⟩ = some (.int .i64 x.o.t.to) := hbp.cell 10
          have d11 : w8.cell? ⟨q, 11, none⟩ = some (.slice x.o.ma x.o.marks.length x.o.mc) := hbp.cell 11
          have j1 : (0 : Int) ≤ (n : Int) := by omega
          have j2 : (n : Int) < (nb : Int) := by omega
          unfold imv ima at HI
          clear hp hx hrd hits hxp hpm hbp hf8 hlt HFL HFW
          subst hw8 hq
          go_wp2_with fail
          refine HI.out.mono ?_
          clear HI
          rintro e w11 ⟨rfl, ⟨s', hs', h11⟩, hf11⟩
          have HN : Hid (Fl w11 B1 g1 b1 s' rg (laOf ps (n + 1)) fun _ => false) := h11
          have HFN := Lib.hid (HFW8.out.trans hf11)
          clear h11 hf11 HFW8
          go_wp2_with fail
          go_roundw
          case rel => exact ⟨n + 1, s', by omega, by go_num, by omega, HN, HFN⟩
          case measure => simp [intOf]; omega
        have j3 : (nb : Int) ≤ (n : Int) := by omega
        have HFZ := Lib.hid (HFV.out.trans (HBM.out _ HFW.out))
        clear hlt
        go_wp2_with fail
        go_ret
        exact ⟨rfl, HFZ.out⟩
    · obtain ⟨hb, hit⟩ := HAT.out.no (by rw [HLAO.out, find_next HUP.out (by have := HNB.out; omega)]; exact List.getElem?_eq_none (by have := HNB.out; omega))
      subst hb hit
      have hnn : nb = na := by omega
      clear hlt
      subst hnn
      have HF9 : Hid (Fr NoBlk w7 w7.drew) := (Fr.refl _ _).drew
      refine wp_region_held_drew (S := fun w' => Bk w' q8 40 #[.int .i64 imz.kind, .int .i64 imz.index, .int .i64 imz.o.node, .int .u64 (imz.o.epoch : Int), .int .u64 (imz.o.seq : Int), .int .i64 imz.o.tr, .int .i64 imz.o.t.kind, .slice imz.o.t.ra imz.o.t.reads.length imz.o.t.rc, .slice imz.o.t.wa imz.o.t.writes.length imz.o.t.wc, .slice imz.o.t.oa imz.o.t.ops.length imz.o.t.oc, .int .i64 imz.o.t.to, .slice imz.o.ma imz.o.marks.length imz.o.mc]) (by kernel_rfl) (HSD.out _ (Fr.refl _ _).drew) (fun hHeld => ?_)
      refine wpAnyH_take (i := 0) (oi := ⟨some 73, _, _, _, _, _⟩) (v := ?_) rfl (by kernel_rfl) (by kernel_rfl) (by kernel_rfl) (fun _ _ _ h => h) (Or.inl ⟨by rfl, ?_⟩) (by assumption) ?_
      rotate_left 1
      · (intro w hSw; (try dsimp only at hSw); have k0 := hSw.cell 0; have k1 := hSw.cell 1; have k2 := hSw.cell 2; have k3 := hSw.cell 3; have k4 := hSw.cell 4; have k5 := hSw.cell 5; have k6 := hSw.cell 6; have k7 := hSw.cell 7; have k8 := hSw.cell 8; have k9 := hSw.cell 9; have k10 := hSw.cell 10; have k11 := hSw.cell 11; clear hSw; simp only [List.getElem?_toArray, List.getElem?_cons_succ, List.getElem?_cons_zero] at k0 k1 k2 k3 k4 k5 k6 k7 k8 k9 k10 k11; go_simp) <;> (with_reducible rfl)
      try simp only [Act.put, List.setIfInBounds_toArray, List.set_cons_zero, List.set_cons_succ]
      refine wpAnyH_take (i := 1) (oi := ⟨some 74, _, _, _, _, _⟩) (v := ?_) rfl (by kernel_rfl) (by kernel_rfl) (by kernel_rfl) (fun _ _ _ h => h) (Or.inl ⟨by rfl, ?_⟩) (by assumption) ?_
      rotate_left 1
      · (intro w hSw; (try dsimp only at hSw); have k0 := hSw.cell 0; have k1 := hSw.cell 1; have k2 := hSw.cell 2; have k3 := hSw.cell 3; have k4 := hSw.cell 4; have k5 := hSw.cell 5; have k6 := hSw.cell 6; have k7 := hSw.cell 7; have k8 := hSw.cell 8; have k9 := hSw.cell 9; have k10 := hSw.cell 10; have k11 := hSw.cell 11; clear hSw; simp only [List.getElem?_toArray, List.getElem?_cons_succ, List.getElem?_cons_zero] at k0 k1 k2 k3 k4 k5 k6 k7 k8 k9 k10 k11; go_simp) <;> (with_reducible rfl)
      try simp only [Act.put, List.setIfInBounds_toArray, List.set_cons_zero, List.set_cons_succ]
      refine wpAnyH_take (i := 2) (oi := ⟨some 75, _, _, _, _, _⟩) (v := ?_) rfl (by kernel_rfl) (by kernel_rfl) (by kernel_rfl) (fun _ _ _ h => h) (Or.inl ⟨by rfl, ?_⟩) (by assumption) ?_
      rotate_left 1
      · (intro w hSw; (try dsimp only at hSw); have k0 := hSw.cell 0; have k1 := hSw.cell 1; have k2 := hSw.cell 2; have k3 := hSw.cell 3; have k4 := hSw.cell 4; have k5 := hSw.cell 5; have k6 := hSw.cell 6; have k7 := hSw.cell 7; have k8 := hSw.cell 8; have k9 := hSw.cell 9; have k10 := hSw.cell 10; have k11 := hSw.cell 11; clear hSw; simp only [List.getElem?_toArray, List.getElem?_cons_succ, List.getElem?_cons_zero] at k0 k1 k2 k3 k4 k5 k6 k7 k8 k9 k10 k11; go_simp) <;> (with_reducible rfl)
      try simp only [Act.put, List.setIfInBounds_toArray, List.set_cons_zero, List.set_cons_succ]
      refine wpAnyH_take (i := 3) (oi := ⟨some 76, _, _, _, _, _⟩) (v := ?_) rfl (by kernel_rfl) (by kernel_rfl) (by kernel_rfl) (fun _ _ _ h => h) (Or.inl ⟨by rfl, ?_⟩) (by assumption) ?_
      rotate_left 1
      · (intro w hSw; (try dsimp only at hSw); have k0 := hSw.cell 0; have k1 := hSw.cell 1; have k2 := hSw.cell 2; have k3 := hSw.cell 3; have k4 := hSw.cell 4; have k5 := hSw.cell 5; have k6 := hSw.cell 6; have k7 := hSw.cell 7; have k8 := hSw.cell 8; have k9 := hSw.cell 9; have k10 := hSw.cell 10; have k11 := hSw.cell 11; clear hSw; simp only [List.getElem?_toArray, List.getElem?_cons_succ, List.getElem?_cons_zero] at k0 k1 k2 k3 k4 k5 k6 k7 k8 k9 k10 k11; go_simp) <;> (with_reducible rfl)
      try simp only [Act.put, List.setIfInBounds_toArray, List.set_cons_zero, List.set_cons_succ]
      refine wpAnyH_take (i := 4) (oi := ⟨some 77, _, _, _, _, _⟩) (v := ?_) rfl (by kernel_rfl) (by kernel_rfl) (by kernel_rfl) (fun _ _ _ h => h) (Or.inl ⟨by rfl, ?_⟩) (by assumption) ?_
      rotate_left 1
      · (intro w hSw; (try dsimp only at hSw); have k0 := hSw.cell 0; have k1 := hSw.cell 1; have k2 := hSw.cell 2; have k3 := hSw.cell 3; have k4 := hSw.cell 4; have k5 := hSw.cell 5; have k6 := hSw.cell 6; have k7 := hSw.cell 7; have k8 := hSw.cell 8; have k9 := hSw.cell 9; have k10 := hSw.cell 10; have k11 := hSw.cell 11; clear hSw; simp only [List.getElem?_toArray, List.getElem?_cons_succ, List.getElem?_cons_zero] at k0 k1 k2 k3 k4 k5 k6 k7 k8 k9 k10 k11; go_simp) <;> (with_reducible rfl)
      try simp only [Act.put, List.setIfInBounds_toArray, List.set_cons_zero, List.set_cons_succ]
      refine wpAnyH_take (i := 5) (oi := ⟨some 78, _, _, _, _, _⟩) (v := ?_) rfl (by kernel_rfl) (by kernel_rfl) (by kernel_rfl) (fun _ _ _ h => h) (Or.inl ⟨by rfl, ?_⟩) (by assumption) ?_
      rotate_left 1
      · (intro w hSw; (try dsimp only at hSw); have k0 := hSw.cell 0; have k1 := hSw.cell 1; have k2 := hSw.cell 2; have k3 := hSw.cell 3; have k4 := hSw.cell 4; have k5 := hSw.cell 5; have k6 := hSw.cell 6; have k7 := hSw.cell 7; have k8 := hSw.cell 8; have k9 := hSw.cell 9; have k10 := hSw.cell 10; have k11 := hSw.cell 11; clear hSw; simp only [List.getElem?_toArray, List.getElem?_cons_succ, List.getElem?_cons_zero] at k0 k1 k2 k3 k4 k5 k6 k7 k8 k9 k10 k11; go_simp) <;> (with_reducible rfl)
      try simp only [Act.put, List.setIfInBounds_toArray, List.set_cons_zero, List.set_cons_succ]
      refine wpAnyH_take (i := 6) (oi := ⟨some 79, _, _, _, _, _⟩) (v := ?_) rfl (by kernel_rfl) (by kernel_rfl) (by kernel_rfl) (fun _ _ _ h => h) (Or.inl ⟨by rfl, ?_⟩) (by assumption) ?_
      rotate_left 1
      · (intro w hSw; (try dsimp only at hSw); have k0 := hSw.cell 0; have k1 := hSw.cell 1; have k2 := hSw.cell 2; have k3 := hSw.cell 3; have k4 := hSw.cell 4; have k5 := hSw.cell 5; have k6 := hSw.cell 6; have k7 := hSw.cell 7; have k8 := hSw.cell 8; have k9 := hSw.cell 9; have k10 := hSw.cell 10; have k11 := hSw.cell 11; clear hSw; simp only [List.getElem?_toArray, List.getElem?_cons_succ, List.getElem?_cons_zero] at k0 k1 k2 k3 k4 k5 k6 k7 k8 k9 k10 k11; go_simp) <;> (with_reducible rfl)
      try simp only [Act.put, List.setIfInBounds_toArray, List.set_cons_zero, List.set_cons_succ]
      refine wpAnyH_take (i := 7) (oi := ⟨some 80, _, _, _, _, _⟩) (v := ?_) rfl (by kernel_rfl) (by kernel_rfl) (by kernel_rfl) (fun _ _ _ h => h) (Or.inl ⟨by rfl, ?_⟩) (by assumption) ?_
      rotate_left 1
      · (intro w hSw; (try dsimp only at hSw); have k0 := hSw.cell 0; have k1 := hSw.cell 1; have k2 := hSw.cell 2; have k3 := hSw.cell 3; have k4 := hSw.cell 4; have k5 := hSw.cell 5; have k6 := hSw.cell 6; have k7 := hSw.cell 7; have k8 := hSw.cell 8; have k9 := hSw.cell 9; have k10 := hSw.cell 10; have k11 := hSw.cell 11; clear hSw; simp only [List.getElem?_toArray, List.getElem?_cons_succ, List.getElem?_cons_zero] at k0 k1 k2 k3 k4 k5 k6 k7 k8 k9 k10 k11; go_simp) <;> (with_reducible rfl)
      try simp only [Act.put, List.setIfInBounds_toArray, List.set_cons_zero, List.set_cons_succ]
      refine wpAnyH_take (i := 8) (oi := ⟨some 81, _, _, _, _, _⟩) (v := ?_) rfl (by kernel_rfl) (by kernel_rfl) (by kernel_rfl) (fun _ _ _ h => h) (Or.inl ⟨by rfl, ?_⟩) (by assumption) ?_
      rotate_left 1
      · (intro w hSw; (try dsimp only at hSw); have k0 := hSw.cell 0; have k1 := hSw.cell 1; have k2 := hSw.cell 2; have k3 := hSw.cell 3; have k4 := hSw.cell 4; have k5 := hSw.cell 5; have k6 := hSw.cell 6; have k7 := hSw.cell 7; have k8 := hSw.cell 8; have k9 := hSw.cell 9; have k10 := hSw.cell 10; have k11 := hSw.cell 11; clear hSw; simp only [List.getElem?_toArray, List.getElem?_cons_succ, List.getElem?_cons_zero] at k0 k1 k2 k3 k4 k5 k6 k7 k8 k9 k10 k11; go_simp) <;> (with_reducible rfl)
      try simp only [Act.put, List.setIfInBounds_toArray, List.set_cons_zero, List.set_cons_succ]
      refine wpAnyH_take (i := 9) (oi := ⟨some 82, _, _, _, _, _⟩) (v := ?_) rfl (by kernel_rfl) (by kernel_rfl) (by kernel_rfl) (fun _ _ _ h => h) (Or.inl ⟨by rfl, ?_⟩) (by assumption) ?_
      rotate_left 1
      · (intro w hSw; (try dsimp only at hSw); have k0 := hSw.cell 0; have k1 := hSw.cell 1; have k2 := hSw.cell 2; have k3 := hSw.cell 3; have k4 := hSw.cell 4; have k5 := hSw.cell 5; have k6 := hSw.cell 6; have k7 := hSw.cell 7; have k8 := hSw.cell 8; have k9 := hSw.cell 9; have k10 := hSw.cell 10; have k11 := hSw.cell 11; clear hSw; simp only [List.getElem?_toArray, List.getElem?_cons_succ, List.getElem?_cons_zero] at k0 k1 k2 k3 k4 k5 k6 k7 k8 k9 k10 k11; go_simp) <;> (with_reducible rfl)
      try simp only [Act.put, List.setIfInBounds_toArray, List.set_cons_zero, List.set_cons_succ]
      refine wpAnyH_take (i := 10) (oi := ⟨some 83, _, _, _, _, _⟩) (v := undef) rfl (by kernel_rfl) (by kernel_rfl) (by kernel_rfl) (fun _ _ _ h => h) (Or.inr ⟨by rfl, rfl⟩) (by assumption) ?_
      try simp only [Act.put, List.setIfInBounds_toArray, List.set_cons_zero, List.set_cons_succ]
      refine wpAnyH_take (i := 11) (oi := ⟨some 84, _, _, _, _, _⟩) (v := undef) rfl (by kernel_rfl) (by kernel_rfl) (by kernel_rfl) (fun _ _ _ h => h) (Or.inr ⟨by rfl, rfl⟩) (by assumption) ?_
      try simp only [Act.put, List.setIfInBounds_toArray, List.set_cons_zero, List.set_cons_succ]
      refine wpAnyH_take (i := 12) (oi := ⟨some 85, _, _, _, _, _⟩) (v := undef) rfl (by kernel_rfl) (by kernel_rfl) (by kernel_rfl) (fun _ _ _ h => h) (Or.inr ⟨by rfl, rfl⟩) (by assumption) ?_
      try simp only [Act.put, List.setIfInBounds_toArray, List.set_cons_zero, List.set_cons_succ]
      refine wpAnyH_take (i := 13) (oi := ⟨some 86, _, _, _, _, _⟩) (v := undef) rfl (by kernel_rfl) (by kernel_rfl) (by kernel_rfl) (fun _ _ _ h => h) (Or.inr ⟨by rfl, rfl⟩) (by assumption) ?_
      try simp only [Act.put, List.setIfInBounds_toArray, List.set_cons_zero, List.set_cons_succ]
      refine wpAnyH_take (i := 14) (oi := ⟨some 87, _, _, _, _, _⟩) (v := undef) rfl (by kernel_rfl) (by kernel_rfl) (by kernel_rfl) (fun _ _ _ h => h) (Or.inr ⟨by rfl, rfl⟩) (by assumption) ?_
      try simp only [Act.put, List.setIfInBounds_toArray, List.set_cons_zero, List.set_cons_succ]
      refine wpAnyH_take (i := 15) (oi := ⟨some 88, _, _, _, _, _⟩) (v := undef) rfl (by kernel_rfl) (by kernel_rfl) (by kernel_rfl) (fun _ _ _ h => h) (Or.inr ⟨by rfl, rfl⟩) (by assumption) ?_
      try simp only [Act.put, List.setIfInBounds_toArray, List.set_cons_zero, List.set_cons_succ]
      refine wpAnyH_take (i := 16) (oi := ⟨some 89, _, _, _, _, _⟩) (v := undef) rfl (by kernel_rfl) (by kernel_rfl) (by kernel_rfl) (fun _ _ _ h => h) (Or.inr ⟨by rfl, rfl⟩) (by assumption) ?_
      try simp only [Act.put, List.setIfInBounds_toArray, List.set_cons_zero, List.set_cons_succ]
      refine wpAnyH_take (i := 17) (oi := ⟨some 90, _, _, _, _, _⟩) (v := undef) rfl (by kernel_rfl) (by kernel_rfl) (by kernel_rfl) (fun _ _ _ h => h) (Or.inr ⟨by rfl, rfl⟩) (by assumption) ?_
      try simp only [Act.put, List.setIfInBounds_toArray, List.set_cons_zero, List.set_cons_succ]
      refine wpAnyH_take (i := 18) (oi := ⟨some 91, _, _, _, _, _⟩) (v := undef) rfl (by kernel_rfl) (by kernel_rfl) (by kernel_rfl) (fun _ _ _ h => h) (Or.inr ⟨by rfl, rfl⟩) (by assumption) ?_
      try simp only [Act.put, List.setIfInBounds_toArray, List.set_cons_zero, List.set_cons_succ]
      refine wpAnyH_take (i := 19) (oi := ⟨some 92, _, _, _, _, _⟩) (v := undef) rfl (by kernel_rfl) (by kernel_rfl) (by kernel_rfl) (fun _ _ _ h => h) (Or.inr ⟨by rfl, rfl⟩) (by assumption) ?_
      try simp only [Act.put, List.setIfInBounds_toArray, List.set_cons_zero, List.set_cons_succ]
      refine wpAnyH_take (i := 20) (oi := ⟨some 93, _, _, _, _, _⟩) (v := undef) rfl (by kernel_rfl) (by kernel_rfl) (by kernel_rfl) (fun _ _ _ h => h) (Or.inr ⟨by rfl, rfl⟩) (by assumption) ?_
      try simp only [Act.put, List.setIfInBounds_toArray, List.set_cons_zero, List.set_cons_succ]
      refine wpAnyH_take (i := 21) (oi := ⟨some 94, _, _, _, _, _⟩) (v := ?_) rfl (by kernel_rfl) (by kernel_rfl) (by kernel_rfl) (fun _ _ _ h => h) (Or.inl ⟨by rfl, ?_⟩) (by assumption) ?_
      rotate_left 1
      · (intro w hSw; (try dsimp only at hSw); have k0 := hSw.cell 0; have k1 := hSw.cell 1; have k2 := hSw.cell 2; have k3 := hSw.cell 3; have k4 := hSw.cell 4; have k5 := hSw.cell 5; have k6 := hSw.cell 6; have k7 := hSw.cell 7; have k8 := hSw.cell 8; have k9 := hSw.cell 9; have k10 := hSw.cell 10; have k11 := hSw.cell 11; clear hSw; simp only [List.getElem?_toArray, List.getElem?_cons_succ, List.getElem?_cons_zero] at k0 k1 k2 k3 k4 k5 k6 k7 k8 k9 k10 k11; go_simp) <;> (with_reducible rfl)
      try simp only [Act.put, List.setIfInBounds_toArray, List.set_cons_zero, List.set_cons_succ]
      refine wpAnyH_take (i := 22) (oi := ⟨some 95, _, _, _, _, _⟩) (v := ?_) rfl (by kernel_rfl) (by kernel_rfl) (by kernel_rfl) (fun _ _ _ h => h) (Or.inl ⟨by rfl, ?_⟩) (by assumption) ?_
      rotate_left 1
      · (intro w hSw; (try dsimp only at hSw); have k0 := hSw.cell 0; have k1 := hSw.cell 1; have k2 := hSw.cell 2; have k3 := hSw.cell 3; have k4 := hSw.cell 4; have k5 := hSw.cell 5; have k6 := hSw.cell 6; have k7 := hSw.cell 7; have k8 := hSw.cell 8; have k9 := hSw.cell 9; have k10 := hSw.cell 10; have k11 := hSw.cell 11; clear hSw; simp only [List.getElem?_toArray, List.getElem?_cons_succ, List.getElem?_cons_zero] at k0 k1 k2 k3 k4 k5 k6 k7 k8 k9 k10 k11; go_simp) <;> (with_reducible rfl)
      try simp only [Act.put, List.setIfInBounds_toArray, List.set_cons_zero, List.set_cons_succ]
      refine wpAnyH_done (by kernel_rfl) ?_ _
      obtain ⟨wv, hwv⟩ : ∃ wv, wv = w7.drew := ⟨_, rfl⟩
      have HFV : Hid (Fr NoBlk w wv) := by show Fr _ _ _; rw [hwv]; exact HF7.out.trans HF9.out
      have HRV : Hid (∀ W, Fr NoBlk wv W → Rd W A4 (imsc itb) ∧ ItsOf W w3.heap.size itb ps) := fun W hW => by
        have h : Fr NoBlk w7 W := by rw [hwv] at hW; exact HF9.out.trans hW
        exact ⟨HR47.out.nofr h, HITB7.out.1, fun j i p hi hp => (HITB7.out.2 j i p hi hp).nofr h⟩
      rw [← hwv]
      clear hwv HR47 HITB7 HSD HAT HF7 HF9
      go_wp2_with fail
      refine (fregion_any _ _).mono ?_
      rintro e wa ⟨g1, b1, rfl, h1, hf1⟩
      obtain ⟨B1, hB1⟩ : ∃ B, B = wv.heap.size := ⟨_, rfl⟩
      rw [← hB1] at h1
      have HBM : Hid (∀ W, Fr (fun b => b = b1 ∨ b = g1) wa W → Fr NoBlk wv W) := fun W hW => hf1.step hW fun i hi e => by have := h1.b1; have := h1.b2; omega
      have H1 := Lib.hid h1
      clear h1 hf1 hB1
      go_wp2_with fail
      go_loopw [102] (fun z wr => ∃ n s : Nat, n ≤ nb ∧ z = .int .i64 n ∧ s ≤ n ∧ Hid (Fl wr B1 g1 b1 s rg (laOf ps n) fun _ => false) ∧ Hid (Fr (fun b => b = b1 ∨ b = g1) wa wr)) (fun z _ => nb - (intOf z).toNat)
      case atStart => exact ⟨0, 0, by omega, rfl, Nat.le_refl _, H1, Fr.refl _ _⟩
      case round =>
        obtain ⟨n, s, hn2, rfl, hs2, HFL, HFW⟩ := hrel
        by_cases hlt : n < nb
        · obtain ⟨p, hp⟩ : ∃ p, ps[n]? = some p := ⟨_, List.getElem?_eq_getElem (by have := HNB.out; omega)⟩
          obtain ⟨x, hx⟩ : ∃ x, itb[n]? = some x := ⟨_, List.getElem?_eq_getElem (by have := HLB.out; omega)⟩
          obtain ⟨hrd, hits⟩ := HRV.out _ (HBM.out _ HFW.out)
          have hxp := hits.2 n x p hx hp
          obtain ⟨pb, po, rfl, hc⟩ := hrd.icells hx
          obtain ⟨c0, c1, c2, c3, c4, c5, c6, c7, c8, c9, c10, c11⟩ := hc
          obtain ⟨q, hq⟩ : ∃ q, q = wr.heap.size := ⟨_, rfl⟩
          obtain ⟨w8, hw8⟩ : ∃ w8, w8 = wr.alloc (.cells #[.int .i64 x.kind, .int .i64 x.index, .int .i64 x.o.node, .int .u64 (x.o.epoch : Int), .int .u64 (x.o.seq : Int), .int .i64 x.o.tr, .int .i64 x.o.t.kind, .slice x.o.t.ra x.o.t.reads.length x.o.t.rc, .slice x.o.t.wa x.o.t.writes.length x.o.t.wc, .slice x.o.t.oa x.o.t.ops.length x.o.t.oc, .int .i64 x.o.t.to, .slice x.o.ma x.o.marks.length x.o.mc] 40) := ⟨_, rfl⟩
          have hf8 : Fr NoBlk wr w8 := by rw [hw8]; exact (Fr.refl _ _).alloc _
          have hbp : Bk w8 q 40 #[.int .i64 x.kind, .int .i64 x.index, .int .i64 x.o.node, .int .u64 (x.o.epoch : Int), .int .u64 (x.o.seq : Int), .int .i64 x.o.tr, .int .i64 x.o.t.kind, .slice x.o.t.ra x.o.t.reads.length x.o.t.rc, .slice x.o.t.wa x.o.t.writes.length x.o.t.wc, .slice x.o.t.oa x.o.t.ops.length x.o.t.oc, .int .i64 x.o.t.to, .slice x.o.ma x.o.marks.length x.o.mc] := by rw [hw8, hq]; exact Bk.new _ _ _
          have hpm := List.mem_of_getElem? hp
          have HI : Hid (Calls Try.prog 19 #[.pointer (some ⟨g1, 0, none⟩), imv x] w8 fun e w' => e = .returned (.bool true) ∧ (∃ s', s' ≤ s + 1 ∧ Fl w' B1 g1 b1 s' rg (laOf ps (n + 1)) fun _ => false) ∧ Fr (fun b => b = b1 ∨ b = g1) w8 w') := by
            have htg : tgOf x.o = tgOf p.2 := by unfold tgOf; rw [hxp.like.node, hxp.like.epoch, hxp.like.seq, hxp.like.tr]
            have h := fitem_any w8 B1 g1 b1 s rg (laOf ps n) (fun _ => false) (HFL.out.nofr hf8) (by omega) x (hxp.inn.nofr hf8) (by rw [hxp.like.marks]; have := (HPS.out p hpm).m; omega) (by rw [htg]; exact (HX.out _ (HPM.out p hpm)).2)
            obtain ⟨e1, e2, e3⟩ := count_piece hxp (HPC.out p hpm) (laOf_lt HUP.out hp) fun _ => false
            unfold ItemPost at h
            rw [e1, e2, e3, ← laOf_succ hp] at h
            exact h
          have HFW8 := Lib.hid (HFW.out.trans (hf8.mono fun _ _ e => e.elim))
          have d0 : w8.cell? ⟨q, 0, none⟩ = some (.int .i64 x.kind) := hbp.cell 0
          have d1 : w8.cell? ⟨q, 1, none⟩ = some (.int .i64 x.index) := hbp.cell 1
          have d2 : w8.cell? ⟨q, 2, none⟩ = some (.int .i64 x.o.node) := hbp.cell 2
          have d3 : w8.cell? ⟨q, 3, none⟩ = some (.int .u64 (x.o.epoch : Int)) := hbp.cell 3
          have d4 : w8.cell? ⟨q, 4, none⟩ = some (.int .u64 (x.o.seq : Int)) := hbp.cell 4
          have d5 : w8.cell? ⟨q, 5, none⟩ = some (.int .i64 x.o.tr) := hbp.cell 5
          have d6 : w8.cell? ⟨q, 6, none⟩ = some (.int .i64 x.o.t.kind) := hbp.cell 6
          have d7 : w8.cell? ⟨q, 7, none⟩ = some (.slice x.o.t.ra x.o.t.reads.length x.o.t.rc) := hbp.cell 7
          have d8 : w8.cell? ⟨q, 8, none⟩ = some (.slice x.o.t.wa x.o.t.writes.length x.o.t.wc) := hbp.cell 8
          have d9 : w8.cell? ⟨q, 9, none⟩ = some (.slice x.o.t.oa x.o.t.ops.length x.o.t.oc) := hbp.cell 9
          have d10 : w8.cell? ⟨q, 10, none⟩ = some (.int .i64 x.o.t.to) := hbp.cell 10
          have d11 : w8.cell? ⟨q, 11, none⟩ = some (.slice x.o.ma x.o.marks.length x.o.mc) := hbp.cell 11
          have j1 : (0 : Int) ≤ (n : Int) := by omega
          have j2 : (n : Int) < (nb : Int) := by omega
          unfold imv ima at HI
          clear hp hx hrd hits hxp hpm hbp hf8 hlt HFL HFW
          subst hw8 hq
          go_wp2_with fail
          refine HI.out.mono ?_
          clear HI
          rintro e w11 ⟨rfl, ⟨s', hs', h11⟩, hf11⟩
          have HN : Hid (Fl w11 B1 g1 b1 s' rg (laOf ps (n + 1)) fun _ => false) := h11
          have HFN := Lib.hid (HFW8.out.trans hf11)
          clear h11 hf11 HFW8
          go_wp2_with fail
          go_roundw
          case rel => exact ⟨n + 1, s', by omega, by go_num, by omega, HN, HFN⟩
          case measure => simp [intOf]; omega
        have j3 : (nb : Int) ≤ (n : Int) := by omega
        have HFZ := Lib.hid (HFV.out.trans (HBM.out _ HFW.out))
        clear hlt
        go_wp2_with fail
        go_ret
        exact ⟨rfl, HFZ.out⟩

theorem paramsOk : ∀ t ∈ Try.f10.params.toList, Try.prog.readableRec t = true ∧ t < Try.prog.types.size := fun t ht => by
  have h := List.all_eq_true.1 (show (Try.f10.params.toList.all fun t => Try.prog.readableRec t && decide (t < Try.prog.types.size)) = true by kernel_rfl) t ht
  simpa using h

set_option maxRecDepth 100000 in
theorem lifted (os : Os) (started : os.Started) (H : Type) (enc : TypeId × Value → H) :
    ReturnsInHanded {} Try.checked os 10 .any (Rows.splitGoesOnSpec.pre6 enc Try.prog Try.f10 Rows.splitGoesOnRow.domain false) (Rows.splitGoesOnSpec.post enc Try.prog Try.f10 false true false false) := by
  refine returnsInHanded_of_change (C := Try.checked) own started (by kernel_rfl) Try.func10
    (ChangeSpec.witness6 (enc := enc) (C := Try.checked) false ⟨#[], #[.slice none 0 0, .int .i64 0, .int .i64 0], []⟩ 8 (by kernel_rfl) (by kernel_rfl) (by kernel_rfl) (by kernel_rfl)) ?_
  intro W base args ds gs before hval0 hW _ _
  have hval : ∀ (j : Nat) t v, Try.f10.params[j]? = some t → args[j]? = some v → Value.okWide Try.prog W .any base t v := hval0
  have hW' := hW
  obtain ⟨p, q, hA0, hV, rfl, _, _⟩ := hW
  have hA : DataW.TrodAll enc Try.prog W 0 (fun _ => true) true Try.f10.params.toList args.toList ds p := hA0
  rw [Try.params10] at hA hval
  obtain ⟨v0, vs0, d0, ds0, p0, q0, hargs, rfl, rfl, h0, r0⟩ := trodAll_cons hA
  obtain ⟨v1, vs1, d1, ds1, p1, q1, rfl, rfl, rfl, h1, r1⟩ := trodAll_cons r0
  obtain ⟨v2, vs2, d2, ds2, p2, q2, rfl, rfl, rfl, h2, r2⟩ := trodAll_cons r1
  obtain ⟨rfl, rfl, rfl⟩ := trodAll_nil r2
  obtain rfl : args = #[v0, v1, v2] := by cases args; simp_all
  obtain ⟨rfl, rfl⟩ := trodVars_none hV
  obtain ⟨A, c, l, rfl, hr, hx, hn, hm⟩ := open_ords (hval 0 _ v0 rfl rfl) h0
  obtain ⟨n, rfl, rfl, rfl, wr1⟩ := open_int Try.underlying3 (hval 1 _ v1 rfl rfl) h1
  obtain ⟨r, rfl, rfl, rfl, wr2⟩ := open_int Try.underlying3 (hval 2 _ v2 rfl rfl) h2
  have walk := walk W n r A c l hr hx hn (Nat.le_trans hn hm)
  clear hA0 hval0
  refine walk.mono fun e W' ⟨he, hf⟩ => ?_
  subst he
  exact ⟨_, rfl, law_post laidOut paramsOk rfl rfl Try.underlying4 hW' rfl rfl rfl hf⟩

theorem said : Rows.SplitGoesOnSaid :=
  OpenClaim.holds_of_wide 10 Try.f10 rfl rfl rfl rfl rfl rfl rfl ⟨rfl, rfl, rfl, rfl, rfl⟩ rfl rfl rfl rfl rfl (by kernel_rfl) Try.func10 (by kernel_rfl)
    (of_decide_eq_true (by kernel_rfl)) (by unfold Func.isWrapper; first | (rw [if_pos (by decide +kernel)]; kernel_rfl) | (rw [if_neg (by decide +kernel)]; exact ⟨rfl, rfl⟩))
    (fun os started H enc _ => lifted os started H enc)
end Go.Proofs.Ytdgjjkmgdjiliaa.splitGoesOn
