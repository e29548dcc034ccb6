/- StoreMoves is true: a Move changes nothing but the home and the counter, and no value ever changes these. No condition. -/
import Derived.Test.YtfifpgefdcgbgaaSpk6
import Derived.Test.YtfifpgefdcgbgaaDo6
import Derived.Test.YtfifpgefdcgbgaaRfA
import Derived.ChangeMaps5
import Derived.Lib.Hide
import Derived.Test.YtfifpgefdcgbgaaMvP
import Derived.Lib.SlBytesConst
namespace Go.Proofs.Ytfifpgefdcgbgaa.storeMoves
open Go.ChangeShapes Go.WideShapes Go.ChangeAt Go.RowKit
theorem OpIn.nofr {W W' : World} {x : Opn} (h : OpIn W x) (hf : Fr NoBlk W W') : OpIn W' x := ⟨⟨⟨h.1.1.1.nofr hf, h.1.1.2⟩, h.1.2⟩, h.2⟩
theorem stp_out {w w' : World} {O O' : Nat → Prop} {p : Nat} (h : Stp w w' O O') (hn : ¬ O p) (hl : p < w.heap.size) : ¬ O' p := fun e => (h.new p e).elim hn fun k => by omega
theorem rd_const (w : World) (cs : Array Value) (t : TypeId) (fr : Nat × Nat) (l : List Value) (h : cs.toList = l) : Rd (w.alloc (.cells cs t fr)) (some ⟨w.heap.size, 0, none⟩) l := by
  intro _
  refine ⟨w.heap.size, 0, rfl, fun j v hj => ?_⟩
  rw [cell_of_row _ w.heap.size _ cs t fr (heap_alloc_new w _), Nat.zero_add, ← hj, ← h]
  simp
theorem kConst (w : World) (C : Array Value) (n c : Nat) : (convert 31 31 (.slice (some ⟨w.heap.size, 0, none⟩) n c)).run Try.prog (w.alloc (.cells C 5)) = .ok (.slice (some ⟨w.heap.size, 0, none⟩) n c) (w.alloc (.cells C 5 (C.size, C.size + 1))) :=
  Lib.run_convert_bytes_const (P := Try.prog) w _ _ C n c Try.underlying31 Try.underlying5
set_option maxRecDepth 100000 in
set_option maxHeartbeats 4000000 in
theorem walk (W : World) (A : Option Addr) (c : Nat) (xs : List Opn) (hr : Rd W A (opsc xs)) (hx : ∀ x ∈ xs, OpIn W x) (hm : xs.length ≤ maxLen) (key : Bs) (hkm : key.length ≤ maxLen) (home : Int) :
    Calls Try.prog 6 #[.slice A xs.length c, .string (bstr key), .int .i64 home] W fun e W' => e = .returned (.bool true) ∧ Fr NoBlk W W' := by
  have HS := Lib.hid (@speaks_any ⟨none⟩ W fun k e => by cases e)
  have HR := Lib.hid (And.intro hr (And.intro hx hm))
  obtain ⟨N, hN⟩ : ∃ N, N = xs.length := ⟨_, rfl⟩
  have HNN := Lib.hid hN
  rw [← hN]
  have e4 := bstr_size key
  have hkm' : key.length ≤ 9223372036854775807 := hkm
  clear hkm
  clear hr hx hm hN
  go_enter Try.func6, Try.ntmps6
  go_wp2_with fail
  refine HS.out.mono ?_
  clear HS
  rintro e w1 ⟨rfl, hf1⟩
  have HGR : Hid (Calls Try.prog 11 #[.slice A N c] w1 fun e w' => GreatPost xs e ∧ Fr NoBlk w1 w') := by
    have h := great_any w1 A c xs (HR.out.1.nofr hf1) (fun x hx => OpIn.nofr (HR.out.2.1 x hx) hf1) HR.out.2.2
    rw [← HNN.out] at h
    exact h
  have HF1 := Lib.hid hf1
  clear hf1
  go_wp2_with fail
  refine HGR.out.mono ?_
  clear HGR
  rintro e w2 ⟨⟨b, rfl, hsm⟩, hf2⟩
  have HSM := Lib.hid hsm
  have HF2 : Hid (Fr NoBlk W w2) := HF1.out.trans hf2
  clear hsm hf2
  cases b with
  | true =>
    go_wp2_with fail
    go_ret
    exact ⟨rfl, HF2.out⟩
  | false =>
  by_cases hk5 : 500 < key.length
  · go_wp2_with fail
    go_ret
    exact ⟨rfl, HF2.out⟩
  have HK5 : Hid (key.length ≤ 500) := by show _ ≤ _; omega
  have HSML := Lib.hid (HSM.out rfl)
  go_wp2_with fail
  refine (@snew_any ⟨none⟩ w2 (fun k e => by cases e) 3).mono ?_
  rintro e w3 (⟨_, _, g, O, rfl, hs, hO, hf3⟩ | ⟨h, _⟩)
  rotate_left
  · exact absurd ⟨by decide, by decide⟩ h
  have HS3 : Hid (@Store ⟨none⟩ w3 g O 3 []) := hs
  have HO3 := Lib.hid hO
  have HF3 := Lib.hid hf3
  clear hs hO hf3 e4 hkm' hk5
  go_wp2_with fail
  refine (@rnew_any ⟨none⟩ w3 (fun k e => by cases e) 3 (by decide)).mono ?_
  rintro e w4 ⟨gm, OM, rfl, hrs, hf4⟩
  have HP4 : Hid (Pair W w4 g gm 3 []) := @pair_new ⟨none⟩ _ _ _ _ _ _ _ _ HS3.out (fun b hb => Nat.le_trans HF2.out.size (HO3.out b hb)) (HF2.out.trans HF3.out) hrs hf4
  clear hrs hf4 HS3 HO3 HF3
  go_wp2_with fail
  go_loopw [37] (fun z wr => ∃ k : Nat, z = .int .i64 (k : Int) ∧ k ≤ N ∧ Hid (∃ rs, Pair W wr g gm 3 rs ∧ Lim k rs)) (fun z _ => N - (intOf z).toNat)
  case atStart => exact ⟨0, rfl, Nat.zero_le _, [], HP4.out, Lim.nil⟩
  case round =>
    obtain ⟨k, rfl, hk, HI⟩ := hrel
    clear HP4
    have hNs : N ≤ 100 := by have h1 := HSML.out.n; have h2 := HNN.out; omega
    have hw2 : IntKind.i64.wrap ((k : Int) + 1) = ((k + 1 : Nat) : Int) := by rw [IntWalk.i64_in _ (by omega)]; omega
    by_cases hlt : k < N
    · obtain ⟨x, hx⟩ : ∃ x, xs[k]? = some x := ⟨_, List.getElem?_eq_getElem (by have := HNN.out; omega)⟩
      have hxs := HSML.out.o x (List.mem_of_getElem? hx)
      obtain ⟨rs, hpr, hlm⟩ := HI.out
      have hfW : Fr NoBlk W wr := by obtain ⟨_, _, o, h⟩ := hpr; exact @PairS.fr ⟨o⟩ _ _ _ _ _ _ _ _ _ h
      obtain ⟨b, o, hA, c0, c1, c2, c4⟩ := (HR.out.1.nofr hfW).opn hx
      have hin := HR.out.2.1 x (List.mem_of_getElem? hx)
      subst hA
      obtain ⟨wa, hwa⟩ : ∃ w, w = wr.alloc (.cells (opa x) 33) := ⟨_, rfl⟩
      have hfa : Fr NoBlk wr wa := by rw [hwa]; exact (Fr.refl _ _).alloc _
      have hdo := do_any W wa g gm 3 k rs (hpr.nofr hfa) hlm (by omega) x hin.1.1 hxs
      have HBW : Hid (Bk wa wr.heap.size 33 (opa x)) := by show Bk _ _ _ _; rw [hwa]; exact Bk.new _ _ _
      have HWA := Lib.hid hwa
      have HFA := Lib.hid hfa
      clear hx hxs hpr hlm hfW hin hwa hfa HI
      obtain ⟨kind, no, name, ⟨va, vc, vb⟩⟩ := x
      unfold opa at HWA hdo HBW
      unfold st at c2 HWA hdo HBW
      unfold sl at c4 HWA hdo HBW
      dsimp only at c0 c1 c2 c4 HWA hdo HBW
      obtain ⟨vl, hvl⟩ : ∃ vl, vl = vb.length := ⟨_, rfl⟩
      rw [← hvl] at c4 HWA hdo HBW
      have HDO := Lib.hid hdo
      clear hvl hdo
      obtain ⟨pb, hpb⟩ : ∃ pb, pb = wr.heap.size := ⟨_, rfl⟩
      rw [← hpb] at HBW
      go_upto_region 12 with fail
      rw [← HWA.out, ← hpb]
      have b0 : wa.cell? ⟨pb, 0, none⟩ = some (.int .i64 kind) := HBW.out.cell 0
      have b1 : wa.cell? ⟨pb, 1, none⟩ = some (.int .i64 no) := HBW.out.cell 1
      have b2 : wa.cell? ⟨pb, 2, none⟩ = some (.string (bstr name)) := HBW.out.cell 2
      have b3 : wa.cell? ⟨pb, 3, none⟩ = some (.slice va vl vc) := HBW.out.cell 3
      clear HWA hpb c0 c1 c2 c4
      go_wp2_with fail
      refine HDO.out.mono ?_
      clear HDO
      rintro e w5 ⟨rfl, rs2, hp5, hl5⟩
      have HI5 : Hid (∃ rs, Pair W w5 g gm 3 rs ∧ Lim (k + 1) rs) := ⟨rs2, hp5, hl5⟩
      clear hp5 hl5
      go_wp2_with fail
      go_roundw
      case rel => exact ⟨k + 1, by go_num, by omega, HI5⟩
      case measure => simp [intOf]; omega
    · obtain ⟨rs, ⟨O5, OM5, o5, hpr⟩, hlm⟩ := HI.out
      obtain ⟨E, hps⟩ : ∃ E : Ex, PairS W wr g gm 3 rs rs O5 OM5 := ⟨⟨o5⟩, hpr⟩
      have HPS := Lib.hid hps
      have HLM : Hid (Lim k rs ∧ k ≤ 100) := ⟨hlm, by omega⟩
      clear hpr hps hlm HI hw2
      obtain ⟨w0, hw0⟩ : ∃ w0, w0 = wr := ⟨_, rfl⟩
      subst hw0
      obtain ⟨r0, hr0⟩ : ∃ r, r = rget ((3 : Nat) : Int) rs key := ⟨_, rfl⟩
      have HR0 := Lib.hid hr0
      obtain ⟨ct, hct⟩ : ∃ ct, ct = r0.count := ⟨_, rfl⟩
      have HKC : Hid (ct ≤ k) := by
        have h := HLM.out.1.get ((3 : Nat) : Int) key
        rw [← hr0] at h
        show ct ≤ k
        rw [hct]
        exact h.2
      have HVL : Hid (r0.val.length ≤ 500 ∧ ct ≤ 100 ∧ r0.count = ct) := by
        have h := HLM.out.1.get ((3 : Nat) : Int) key
        rw [← hr0] at h
        exact ⟨h.1, by have h2 := HLM.out.2; have h3 := h.2; omega, hct.symm⟩
      have HG0 : Hid (Calls Try.prog 16 #[.pointer (some ⟨g, 0, none⟩), .string (bstr key)] w0 (GetPost w0 r0)) := by
        have h := sget_any w0 g O5 3 rs HPS.out.st key (by have := HK5.out; omega)
        rw [← hr0] at h
        exact h (by have := HVL.out.1; omega)
      clear hr0 hct
      go_wp2_with fail
      refine HG0.out.mono ?_
      clear HG0
      rintro e w5 ⟨v0, rfl, hfr0, hf5⟩
      obtain ⟨ah, aa, an, ac, am, at'⟩ := v0
      unfold vaR
      have HFRA := Lib.hid hfr0
      have HF5 := Lib.hid hf5
      have HRL : Hid (Calls Try.prog 28 #[.pointer (some ⟨g, 0, none⟩), .string { data := #[] }, .int .i64 1000] w5 (RowsPost w5 (rrange [] 1000 rs))) := srange_any w5 g O5 3 rs (HPS.out.st.nofr hf5) (by have h1 := HLM.out.1.1; have h2 := HLM.out.2; omega) HLM.out.1.val [] 1000
      clear hfr0 hf5
      go_wp2_with fail
      refine HRL.out.mono ?_
      clear HRL
      rintro e w6 ⟨A6, c6, us6, rfl, ho6, hrow6, hf6⟩
      obtain ⟨m6, hm6⟩ : ∃ m6, m6 = (rrange [] 1000 rs).length := ⟨_, rfl⟩
      rw [← hm6]
      have HM6 : Hid (m6 = hasN rs) := hm6.trans (range_len HLM.out.1.1 (by have := HLM.out.2; omega))
      have HF6 : Hid (Fr NoBlk w0 w6) := HF5.out.trans hf6
      have HF56 := Lib.hid hf6
      clear ho6 hrow6 hf6 hm6
      obtain ⟨p0, hp0⟩ : ∃ p, p = w6.heap.size := ⟨_, rfl⟩
      obtain ⟨w7, hw7⟩ : ∃ W, W = w6.alloc (.cells #[.bool ah, .slice aa an ac, .int .i64 am, .int .u64 (at' : Int)] 38) := ⟨_, rfl⟩
      have hw7f : Fr NoBlk w6 w7 := by rw [hw7]; exact (Fr.refl _ _).alloc _
      have Hp0 : Hid (Bk w7 p0 38 #[.bool ah, .slice aa an ac, .int .i64 am, .int .u64 (at' : Int)]) := by show Bk _ _ _ _; rw [hw7, hp0]; exact Bk.new _ _ _
      have Hp0l : Hid (p0 = w6.heap.size ∧ p0 < w7.heap.size) := ⟨hp0, Hp0.out.lt⟩
      go_upto_region 15 with fail
      rw [← hw7, ← hp0]
      clear hw7 hp0
      have HF7 : Hid (Fr NoBlk w0 w7) := HF6.out.trans hw7f
      have HP7 : Hid (PairS W w7 g gm 3 rs rs O5 OM5) := HPS.out.nofr HF7.out
      have HRD7 : Hid (Reads w7 ⟨ah, aa, an, ac, am, at'⟩ r0) := (HFRA.out.reads HPS.out.st.lx).nofr ((show Fr NoBlk w5 w6 from HF56.out).trans hw7f)
      clear hw7f
      go_wp2_with fail
      refine (smove_any w7 g O5 3 rs HP7.out.st (by have h1 := HLM.out.1.1; have h2 := HLM.out.2; omega) key (by have := HK5.out; omega) home).mono ?_
      rintro e w8 ⟨rfl, O8, hs8, hp8⟩
      have HFW : Hid (Fr NoBlk W w8) := (HP7.out.stp hs8 hp8).fr
      have HOP0 : ¬ O5 p0 := fun e => by
        have h1 := HPS.out.st.lt e
        have h2 := Hp0l.out.1
        have h3 := HF6.out.size
        omega
      have HB8 : Hid (Bk w8 p0 38 #[.bool ah, .slice aa an ac, .int .i64 am, .int .u64 (at' : Int)]) := Hp0.out.fr hp8.fr HOP0
      have HRD8 : Hid (Reads w8 ⟨ah, aa, an, ac, am, at'⟩ r0) := HRD7.out.fr hp8.fr fun _ hk e => HP7.out.st.nb e hk
      have HOW : Hid (∀ b, O8 b → W.heap.size ≤ b) := (HP7.out.stp hs8 hp8).new
      have HOP : Hid (¬ O8 p0) := stp_out hp8 HOP0 Hp0l.out.2
      have HST8 := Lib.hid hs8
      clear hs8 hp8 HOP0
      by_cases h0 : home < 0
      · have HEE : Hid (moveE 3 rs key home = 1) := if_pos (.inl h0)
        have HRR : Hid (moveR 3 rs key home = rs) := if_neg (by rw [HEE.out]; decide)
        have HG2 : Hid (Calls Try.prog 16 #[.pointer (some ⟨g, 0, none⟩), .string (bstr key)] w8 (GetPost w8 r0)) := by
          have h := sget_any w8 g O8 3 rs (by have h := HST8.out; rw [HRR.out] at h; exact h) key (by have := HK5.out; omega)
          rw [← HR0.out] at h
          exact h (by have := HVL.out.1; omega)
        rw [HEE.out]
        go_wp2_with fail
        refine HG2.out.mono ?_
        clear HG2
        rintro e w9 ⟨v1, rfl, hfr1, hf9⟩
        obtain ⟨bh, ba, bn, bc, bm, bt⟩ := v1
        unfold vaR
        have HFR1 := Lib.hid hfr1
        have HF9 := Lib.hid hf9
        clear hfr1 hf9
        obtain ⟨p1, hp1⟩ : ∃ p, p = w9.heap.size := ⟨_, rfl⟩
        obtain ⟨w10, hw10⟩ : ∃ W, W = w9.alloc (.cells #[.bool bh, .slice ba bn bc, .int .i64 bm, .int .u64 (bt : Int)] 38) := ⟨_, rfl⟩
        have hw10f : Fr NoBlk w9 w10 := by rw [hw10]; exact (Fr.refl _ _).alloc _
        have Hp1 : Hid (Bk w10 p1 38 #[.bool bh, .slice ba bn bc, .int .i64 bm, .int .u64 (bt : Int)]) := by show Bk _ _ _ _; rw [hw10, hp1]; exact Bk.new _ _ _
        have Hp1l : Hid (p1 = w9.heap.size ∧ p1 < w10.heap.size) := ⟨hp1, Hp1.out.lt⟩
        go_upto_region 17 with fail
        rw [← hw10, ← hp1]
        clear hw10 hp1
        have HF10 : Hid (Fr NoBlk w8 w10) := HF9.out.trans hw10f
        have HB10 : Hid (Bk w10 p0 38 #[.bool ah, .slice aa an ac, .int .i64 am, .int .u64 (at' : Int)]) := HB8.out.fr HF10.out fun e => e
        have HSR : Hid (Calls Try.prog 15 #[.agg #[.bool ah, .slice aa an ac, .int .i64 am, .int .u64 (at' : Int)], .agg #[.bool bh, .slice ba bn bc, .int .i64 bm, .int .u64 (bt : Int)]] w10 fun e w' => e = .returned (.bool true) ∧ Fr NoBlk w10 w') :=
          samerec_yes w10 ⟨ah, aa, an, ac, am, at'⟩ ⟨bh, ba, bn, bc, bm, bt⟩ r0 (HRD8.out.nofr HF10.out) ((HFR1.out.reads HST8.out.lx).nofr hw10f)
        clear hw10f
        have c0 : w10.cell? ⟨p0, 0, none⟩ = some (.bool ah) := HB10.out.cell 0
        have c1 : w10.cell? ⟨p0, 1, none⟩ = some (.slice aa an ac) := HB10.out.cell 1
        have c2 : w10.cell? ⟨p0, 2, none⟩ = some (.int .i64 am) := HB10.out.cell 2
        have c3 : w10.cell? ⟨p0, 3, none⟩ = some (.int .u64 (at' : Int)) := HB10.out.cell 3
        have d0 : w10.cell? ⟨p1, 0, none⟩ = some (.bool bh) := Hp1.out.cell 0
        have d1 : w10.cell? ⟨p1, 1, none⟩ = some (.slice ba bn bc) := Hp1.out.cell 1
        have d2 : w10.cell? ⟨p1, 2, none⟩ = some (.int .i64 bm) := Hp1.out.cell 2
        have d3 : w10.cell? ⟨p1, 3, none⟩ = some (.int .u64 (bt : Int)) := Hp1.out.cell 3
        go_wp2_with fail
        refine HSR.out.mono ?_
        clear HSR
        rintro e w11 ⟨rfl, hf11⟩
        have HFZ : Hid (Fr NoBlk W w11) := (HFW.out.trans HF10.out).trans hf11
        clear hf11
        go_wp2_with fail
        go_ret
        exact ⟨rfl, HFZ.out⟩
      by_cases h2 : 2 < home
      · have HEE : Hid (moveE 3 rs key home = 1) := if_pos (.inr (by show (3 : Int) ≤ home; omega))
        have HRR : Hid (moveR 3 rs key home = rs) := if_neg (by rw [HEE.out]; decide)
        have HG2 : Hid (Calls Try.prog 16 #[.pointer (some ⟨g, 0, none⟩), .string (bstr key)] w8 (GetPost w8 r0)) := by
          have h := sget_any w8 g O8 3 rs (by have h := HST8.out; rw [HRR.out] at h; exact h) key (by have := HK5.out; omega)
          rw [← HR0.out] at h
          exact h (by have := HVL.out.1; omega)
        rw [HEE.out]
        go_wp2_with fail
        refine HG2.out.mono ?_
        clear HG2
        rintro e w9 ⟨v1, rfl, hfr1, hf9⟩
        obtain ⟨bh, ba, bn, bc, bm, bt⟩ := v1
        unfold vaR
        have HFR1 := Lib.hid hfr1
        have HF9 := Lib.hid hf9
        clear hfr1 hf9
        obtain ⟨p1, hp1⟩ : ∃ p, p = w9.heap.size := ⟨_, rfl⟩
        obtain ⟨w10, hw10⟩ : ∃ W, W = w9.alloc (.cells #[.bool bh, .slice ba bn bc, .int .i64 bm, .int .u64 (bt : Int)] 38) := ⟨_, rfl⟩
        have hw10f : Fr NoBlk w9 w10 := by rw [hw10]; exact (Fr.refl _ _).alloc _
        have Hp1 : Hid (Bk w10 p1 38 #[.bool bh, .slice ba bn bc, .int .i64 bm, .int .u64 (bt : Int)]) := by show Bk _ _ _ _; rw [hw10, hp1]; exact Bk.new _ _ _
        have Hp1l : Hid (p1 = w9.heap.size ∧ p1 < w10.heap.size) := ⟨hp1, Hp1.out.lt⟩
        go_upto_region 17 with fail
        rw [← hw10, ← hp1]
        clear hw10 hp1
        have HF10 : Hid (Fr NoBlk w8 w10) := HF9.out.trans hw10f
        have HB10 : Hid (Bk w10 p0 38 #[.bool ah, .slice aa an ac, .int .i64 am, .int .u64 (at' : Int)]) := HB8.out.fr HF10.out fun e => e
        have HSR : Hid (Calls Try.prog 15 #[.agg #[.bool ah, .slice aa an ac, .int .i64 am, .int .u64 (at' : Int)], .agg #[.bool bh, .slice ba bn bc, .int .i64 bm, .int .u64 (bt : Int)]] w10 fun e w' => e = .returned (.bool true) ∧ Fr NoBlk w10 w') :=
          samerec_yes w10 ⟨ah, aa, an, ac, am, at'⟩ ⟨bh, ba, bn, bc, bm, bt⟩ r0 (HRD8.out.nofr HF10.out) ((HFR1.out.reads HST8.out.lx).nofr hw10f)
        clear hw10f
        have c0 : w10.cell? ⟨p0, 0, none⟩ = some (.bool ah) := HB10.out.cell 0
        have c1 : w10.cell? ⟨p0, 1, none⟩ = some (.slice aa an ac) := HB10.out.cell 1
        have c2 : w10.cell? ⟨p0, 2, none⟩ = some (.int .i64 am) := HB10.out.cell 2
        have c3 : w10.cell? ⟨p0, 3, none⟩ = some (.int .u64 (at' : Int)) := HB10.out.cell 3
        have d0 : w10.cell? ⟨p1, 0, none⟩ = some (.bool bh) := Hp1.out.cell 0
        have d1 : w10.cell? ⟨p1, 1, none⟩ = some (.slice ba bn bc) := Hp1.out.cell 1
        have d2 : w10.cell? ⟨p1, 2, none⟩ = some (.int .i64 bm) := Hp1.out.cell 2
        have d3 : w10.cell? ⟨p1, 3, none⟩ = some (.int .u64 (bt : Int)) := Hp1.out.cell 3
        go_wp2_with fail
        refine HSR.out.mono ?_
        clear HSR
        rintro e w11 ⟨rfl, hf11⟩
        have HFZ : Hid (Fr NoBlk W w11) := (HFW.out.trans HF10.out).trans hf11
        clear hf11
        go_wp2_with fail
        go_ret
        exact ⟨rfl, HFZ.out⟩
      have HEE : Hid (moveE 3 rs key home = 0) := by
        have h : moveE 3 rs key home = if home < 0 ∨ ((3 : Nat) : Int) ≤ home then 1 else if (rget ((3 : Nat) : Int) rs key).count = 18446744073709551615 then 111 else 0 := rfl
        show _ = _
        rw [h, if_neg (by omega), ← HR0.out, HVL.out.2.2, if_neg (by have := HVL.out.2.1; omega)]
      have HRR : Hid (moveR 3 rs key home = rset rs key ⟨r0.has, r0.val, home, ct + 1⟩) := by
        have h : moveR 3 rs key home = if moveE 3 rs key home = 0 then rset rs key ⟨(rget ((3 : Nat) : Int) rs key).has, (rget ((3 : Nat) : Int) rs key).val, home, (rget ((3 : Nat) : Int) rs key).count + 1⟩ else rs := rfl
        show _ = _
        rw [h, if_pos HEE.out, ← HR0.out, HVL.out.2.2]
      obtain ⟨cn, hcn⟩ : ∃ cn, cn = ct + 1 := ⟨_, rfl⟩
      obtain ⟨rs1, hrs1⟩ : ∃ x, x = rset rs key ⟨r0.has, r0.val, home, cn⟩ := ⟨_, rfl⟩
      have HS1 : Hid (Store w8 g O8 3 rs1) := by have h := HST8.out; rw [HRR.out, ← hcn, ← hrs1] at h; exact h
      have hnz : (cn != 0) = true := by rw [hcn]; simp
      have hu0 : UpI Op.bytesLess rs := HPS.out.st.up
      have hg1 : rget ((3 : Nat) : Int) rs1 key = ⟨r0.has, r0.val, home, cn⟩ := by rw [hrs1]; exact rget_rset hu0 key _ (by simp [hnz])
      have hn1 : hasN rs1 = hasN rs := by
        have h := hasN_put ((3 : Nat) : Int) key ⟨r0.has, r0.val, home, cn⟩ hu0 (by simp [hnz])
        rw [← HR0.out, ← hrs1] at h
        exact Nat.add_right_cancel h
      have hl1 : rs1.length ≤ 101 := by have h1 := rset_le rs key ⟨r0.has, r0.val, home, cn⟩; have h2 := HLM.out.1.1; have h3 := HLM.out.2; rw [hrs1]; omega
      have HCN : Hid (cn = ct + 1) := hcn
      have HRS1 := Lib.hid hrs1
      have H1 : Hid (rget ((3 : Nat) : Int) rs1 key = ⟨r0.has, r0.val, home, cn⟩ ∧ hasN rs1 = hasN rs ∧ rs1.length ≤ 101 ∧ (cn != 0) = true) := ⟨hg1, hn1, hl1, hnz⟩
      have HG1 : Hid (Calls Try.prog 16 #[.pointer (some ⟨g, 0, none⟩), .string (bstr key)] w8 (GetPost w8 ⟨r0.has, r0.val, home, cn⟩)) := by
        have h := sget_any w8 g O8 3 rs1 HS1.out key (by have := HK5.out; omega)
        rw [hg1] at h
        exact h (by have := HVL.out.1; show r0.val.length ≤ _; omega)
      clear hcn hrs1 hnz hu0 hg1 hn1 hl1
      rw [HEE.out]
      go_wp2_with fail
      refine HG1.out.mono ?_
      clear HG1
      rintro e w9 ⟨v1, rfl, hfr1, hf9⟩
      obtain ⟨bh, ba, bn, bc, bm, bt⟩ := v1
      obtain rfl : bh = r0.has := hfr1.has
      obtain rfl : home = bm := hfr1.home.symm
      obtain rfl : cn = bt := hfr1.count.symm
      unfold vaR
      have HFRb := Lib.hid hfr1
      have HFw9 := Lib.hid hf9
      clear hfr1 hf9
      obtain ⟨p1, hp1⟩ : ∃ p, p = w9.heap.size := ⟨_, rfl⟩
      obtain ⟨w10, hw10⟩ : ∃ W, W = w9.alloc (.cells #[.bool r0.has, .slice ba bn bc, .int .i64 home, .int .u64 (cn : Int)] 38) := ⟨_, rfl⟩
      have hw10f : Fr NoBlk w9 w10 := by rw [hw10]; exact (Fr.refl _ _).alloc _
      have Hp1 : Hid (Bk w10 p1 38 #[.bool r0.has, .slice ba bn bc, .int .i64 home, .int .u64 (cn : Int)]) := by show Bk _ _ _ _; rw [hw10, hp1]; exact Bk.new _ _ _
      have Hp1l : Hid (p1 = w9.heap.size ∧ p1 < w10.heap.size) := ⟨hp1, Hp1.out.lt⟩
      go_upto_region 17 with fail
      rw [← hw10, ← hp1]
      clear hw10 hp1
      have HF10 : Hid (Fr NoBlk w8 w10) := HFw9.out.trans hw10f
      have HRB10 : Hid (Reads w10 ⟨r0.has, ba, bn, bc, home, cn⟩ ⟨r0.has, r0.val, home, cn⟩) := (HFRb.out.reads HS1.out.lx).nofr hw10f
      have HBA10 : Hid (Bk w10 p0 38 #[.bool ah, .slice aa an ac, .int .i64 am, .int .u64 (at' : Int)]) := HB8.out.fr HF10.out fun e => e
      have HS10 : Hid (Store w10 g O8 3 rs1) := HS1.out.nofr HF10.out
      have HO8 : Hid (¬ O8 p0 ∧ ¬ O8 p1) := ⟨HOP.out, fun e => by
        have h1 := HS1.out.lt e
        have h2 := Hp1l.out.1
        have h3 := HFw9.out.size
        omega⟩
      clear hw10f
      obtain ⟨q, hq⟩ : ∃ q, q = w10.heap.size := ⟨_, rfl⟩
      obtain ⟨w11, hw11⟩ : ∃ W, W = w10.alloc (.cells #[.int .u8 110, .int .u8 101, .int .u8 119] 5 (3, 4)) := ⟨_, rfl⟩
      have HF11 : Hid (Fr NoBlk w10 w11) := by show Fr _ _ _; rw [hw11]; exact (Fr.refl _ _).alloc _
      have HQ : Hid (Rd w11 (some ⟨q, 0, none⟩) (cb [110, 101, 119])) := by show Rd _ _ _; rw [hw11, hq]; exact rd_const w10 _ _ _ _ rfl
      obtain ⟨rs2, hrs2⟩ : ∃ x, x = rset rs1 key ⟨true, [110, 101, 119], home, cn⟩ := ⟨_, rfl⟩
      have HPT : Hid (Calls Try.prog 30 #[.pointer (some ⟨g, 0, none⟩), .string (bstr key), .slice (some ⟨q, 0, none⟩) 3 3] w11 (KeepPost w11 g O8 3 rs2)) := by
        have h := sput_any w11 g O8 3 rs1 (HS10.out.nofr HF11.out) (by have := H1.out.2.2.1; omega) key (by have := HK5.out; omega) (some ⟨q, 0, none⟩) 3 3 [110, 101, 119] rfl (fun e => by cases e) HQ.out (by decide)
        rw [H1.out.1, ← hrs2] at h
        exact h
      have HR2 := Lib.hid hrs2
      have HVV : Hid (∀ x ∈ rs2, x.2.val.length ≤ 1000000000) := fun x hx => by
        have hl2 := ((HLM.out.1.put HK5.out (r := ⟨r0.has, r0.val, home, cn⟩) ⟨HVL.out.1, by have h1 := HVL.out.2.1; have h2 := HCN.out; show cn ≤ _; have h3 := HKC.out; omega⟩).put HK5.out (r := ⟨true, [110, 101, 119], home, cn⟩) ⟨by show 3 ≤ 500; decide, by have h2 := HCN.out; have h3 := HKC.out; show cn ≤ _; omega⟩).val x
        rw [← HRS1.out, ← hrs2] at hl2
        exact hl2 hx
      clear hrs2
      have kc : (convert 31 31 (.slice (some ⟨w10.heap.size, 0, none⟩) 3 3)).run Try.prog (w10.alloc (.cells #[.int .u8 110, .int .u8 101, .int .u8 119] 5)) = .ok (.slice (some ⟨w10.heap.size, 0, none⟩) 3 3) (w10.alloc (.cells #[.int .u8 110, .int .u8 101, .int .u8 119] 5 (3, 4))) := kConst w10 _ 3 3
      go_wp2_with fail
      rw [← hw11, ← hq]
      clear hw11 hq kc
      refine HPT.out.mono ?_
      clear HPT
      rintro e w12 ⟨⟨x12, rfl⟩, O12, hs12, hp12⟩
      have hS11 : Store w11 g O8 3 rs1 := HS10.out.nofr HF11.out
      have HS12 := Lib.hid hs12
      have HBA12 : Hid (Bk w12 p0 38 #[.bool ah, .slice aa an ac, .int .i64 am, .int .u64 (at' : Int)]) := (HBA10.out.fr HF11.out fun e => e).fr hp12.fr HO8.out.1
      have HBB12 : Hid (Bk w12 p1 38 #[.bool r0.has, .slice ba bn bc, .int .i64 home, .int .u64 (cn : Int)]) := (Hp1.out.fr HF11.out fun e => e).fr hp12.fr HO8.out.2
      have HRA12 : Hid (Reads w12 ⟨ah, aa, an, ac, am, at'⟩ r0) := ((HRD8.out.nofr HF10.out).nofr HF11.out).fr hp12.fr fun _ hk e => hS11.nb e hk
      have HRB12 : Hid (Reads w12 ⟨r0.has, ba, bn, bc, home, cn⟩ ⟨r0.has, r0.val, home, cn⟩) := (HRB10.out.nofr HF11.out).fr hp12.fr fun _ hk e => hS11.nb e hk
      have HO12 : Hid (¬ O12 p0 ∧ ¬ O12 p1) := ⟨stp_out hp12 HO8.out.1 ((HBA10.out.fr HF11.out fun e => e).lt), stp_out hp12 HO8.out.2 ((Hp1.out.fr HF11.out fun e => e).lt)⟩
      have hfw11 : Fr NoBlk W w11 := (HFW.out.trans HF10.out).trans HF11.out
      have HF12 : Hid (Fr NoBlk W w12) := hfw11.step hp12.fr fun i hi e => by have := HOW.out i e; omega
      have HOW12 : Hid (∀ b, O12 b → W.heap.size ≤ b) := fun b hb => (hp12.new b hb).elim (HOW.out b) fun e => Nat.le_trans hfw11.size e
      have hg2 : rget ((3 : Nat) : Int) rs2 key = ⟨true, [110, 101, 119], home, cn⟩ := by rw [HR2.out]; exact rget_rset HS10.out.up key _ rfl
      have H2 : Hid (rget ((3 : Nat) : Int) rs2 key = ⟨true, [110, 101, 119], home, cn⟩ ∧ hasN rs2 + oneB r0.has = hasN rs + 1 ∧ rs2.length ≤ 102) := by
        refine ⟨hg2, ?_, ?_⟩
        · have h := hasN_put ((3 : Nat) : Int) key ⟨true, [110, 101, 119], home, cn⟩ HS10.out.up rfl
          rw [H1.out.1, ← HR2.out, H1.out.2.1] at h
          exact h
        · have h1 := rset_le rs1 key ⟨true, [110, 101, 119], home, cn⟩
          have h2 := H1.out.2.2.1
          rw [HR2.out]
          omega
      have HG3 : Hid (Calls Try.prog 16 #[.pointer (some ⟨g, 0, none⟩), .string (bstr key)] w12 (GetPost w12 ⟨true, [110, 101, 119], home, cn⟩)) := by
        have h := sget_any w12 g O12 3 rs2 hs12 key (by have := HK5.out; omega)
        rw [hg2] at h
        exact h (by show 3 ≤ 1000000000; decide)
      clear hs12 hp12 hS11 hfw11 hg2
      go_wp2_with fail
      refine HG3.out.mono ?_
      clear HG3
      rintro e w13 ⟨v1, rfl, hfr1, hf9⟩
      obtain ⟨dh, da, dn, dc, dm, dt⟩ := v1
      obtain rfl : dh = true := hfr1.has
      obtain rfl : home = dm := hfr1.home.symm
      obtain rfl : cn = dt := hfr1.count.symm
      unfold vaR
      have HFRd := Lib.hid hfr1
      have HFw13 := Lib.hid hf9
      clear hfr1 hf9
      obtain ⟨p2, hp2⟩ : ∃ p, p = w13.heap.size := ⟨_, rfl⟩
      obtain ⟨w14, hw14⟩ : ∃ W, W = w13.alloc (.cells #[.bool true, .slice da dn dc, .int .i64 home, .int .u64 (cn : Int)] 38) := ⟨_, rfl⟩
      have hw14f : Fr NoBlk w13 w14 := by rw [hw14]; exact (Fr.refl _ _).alloc _
      have Hp2 : Hid (Bk w14 p2 38 #[.bool true, .slice da dn dc, .int .i64 home, .int .u64 (cn : Int)]) := by show Bk _ _ _ _; rw [hw14, hp2]; exact Bk.new _ _ _
      have Hp2l : Hid (p2 = w13.heap.size ∧ p2 < w14.heap.size) := ⟨hp2, Hp2.out.lt⟩
      go_upto_region 21 with fail
      rw [← hw14, ← hp2]
      clear hw14 hp2
      have HF14 : Hid (Fr NoBlk w12 w14) := HFw13.out.trans hw14f
      have HBA14 : Hid (Bk w14 p0 38 #[.bool ah, .slice aa an ac, .int .i64 am, .int .u64 (at' : Int)]) := HBA12.out.fr HF14.out fun e => e
      have HBB14 : Hid (Bk w14 p1 38 #[.bool r0.has, .slice ba bn bc, .int .i64 home, .int .u64 (cn : Int)]) := HBB12.out.fr HF14.out fun e => e
      have HS14 : Hid (Store w14 g O12 3 rs2) := HS12.out.nofr HF14.out
      have HO14 : Hid (¬ O12 p2) := fun e => by
        have h1 := HS12.out.lt e
        have h2 := Hp2l.out.1
        have h3 := HFw13.out.size
        omega
      clear hw14f
      obtain ⟨rs3, hrs3⟩ : ∃ x, x = rset rs2 key ⟨false, [], home, cn⟩ := ⟨_, rfl⟩
      have HDL : Hid (Calls Try.prog 31 #[.pointer (some ⟨g, 0, none⟩), .string (bstr key)] w14 (KeepPost w14 g O12 3 rs3)) := by
        have h := sdel_any w14 g O12 3 rs2 HS14.out (by have := H2.out.2.2; omega) key (by have := HK5.out; omega)
        rw [H2.out.1, ← hrs3] at h
        exact h
      have hor : (false || cn != 0) = true := H1.out.2.2.2
      have H3 : Hid (rget ((3 : Nat) : Int) rs3 key = ⟨false, [], home, cn⟩ ∧ hasN rs3 + oneB r0.has = hasN rs ∧ rs3.length ≤ 103) := by
        refine ⟨?_, ?_, ?_⟩
        · rw [hrs3]; exact rget_rset HS14.out.up key _ hor
        · have h := hasN_put ((3 : Nat) : Int) key ⟨false, [], home, cn⟩ HS14.out.up hor
          rw [H2.out.1, ← hrs3] at h
          have h2 := H2.out.2.1
          have h3 : oneB true = 1 := rfl
          have h4 : oneB false = 0 := rfl
          dsimp only at h
          rw [h3, h4] at h
          omega
        · have h1 := rset_le rs2 key ⟨false, [], home, cn⟩
          have h2 := H2.out.2.2
          rw [hrs3]
          omega
      have HR3 := Lib.hid hrs3
      have HV2 : Hid (∀ x ∈ rs2, x.2.val.length ≤ 1000000000) := HVV.out
      clear hrs3 hor
      go_wp2_with fail
      refine HDL.out.mono ?_
      clear HDL
      rintro e w15 ⟨⟨x15, rfl⟩, O15, hs15, hp15⟩
      have HS15 := Lib.hid hs15
      have HBA15 : Hid (Bk w15 p0 38 #[.bool ah, .slice aa an ac, .int .i64 am, .int .u64 (at' : Int)]) := HBA14.out.fr hp15.fr HO12.out.1
      have HBB15 : Hid (Bk w15 p1 38 #[.bool r0.has, .slice ba bn bc, .int .i64 home, .int .u64 (cn : Int)]) := HBB14.out.fr hp15.fr HO12.out.2
      have HBD15 : Hid (Bk w15 p2 38 #[.bool true, .slice da dn dc, .int .i64 home, .int .u64 (cn : Int)]) := Hp2.out.fr hp15.fr HO14.out
      have HRA15 : Hid (Reads w15 ⟨ah, aa, an, ac, am, at'⟩ r0) := (HRA12.out.nofr HF14.out).fr hp15.fr fun _ hk e => HS14.out.nb e hk
      have HRB15 : Hid (Reads w15 ⟨r0.has, ba, bn, bc, home, cn⟩ ⟨r0.has, r0.val, home, cn⟩) := (HRB12.out.nofr HF14.out).fr hp15.fr fun _ hk e => HS14.out.nb e hk
      have HF15 : Hid (Fr NoBlk W w15) := (HF12.out.trans HF14.out).step hp15.fr fun i hi e => by have := HOW12.out i e; omega
      have HG4 : Hid (Calls Try.prog 16 #[.pointer (some ⟨g, 0, none⟩), .string (bstr key)] w15 (GetPost w15 ⟨false, [], home, cn⟩)) := by
        have h := sget_any w15 g O15 3 rs3 hs15 key (by have := HK5.out; omega)
        rw [H3.out.1] at h
        exact h (by show 0 ≤ 1000000000; decide)
      clear hs15 hp15
      go_wp2_with fail
      refine HG4.out.mono ?_
      clear HG4
      rintro e w16 ⟨v1, rfl, hfr1, hf9⟩
      obtain ⟨fh, fa, fn, fc, fm, ft⟩ := v1
      obtain rfl : fh = false := hfr1.has
      obtain rfl : home = fm := hfr1.home.symm
      obtain rfl : cn = ft := hfr1.count.symm
      unfold vaR
      have HFRf := Lib.hid hfr1
      have HFw16 := Lib.hid hf9
      clear hfr1 hf9
      obtain ⟨p3, hp3⟩ : ∃ p, p = w16.heap.size := ⟨_, rfl⟩
      obtain ⟨w17, hw17⟩ : ∃ W, W = w16.alloc (.cells #[.bool false, .slice fa fn fc, .int .i64 home, .int .u64 (cn : Int)] 38) := ⟨_, rfl⟩
      have hw17f : Fr NoBlk w16 w17 := by rw [hw17]; exact (Fr.refl _ _).alloc _
      have Hp3 : Hid (Bk w17 p3 38 #[.bool false, .slice fa fn fc, .int .i64 home, .int .u64 (cn : Int)]) := by show Bk _ _ _ _; rw [hw17, hp3]; exact Bk.new _ _ _
      have Hp3l : Hid (p3 = w16.heap.size ∧ p3 < w17.heap.size) := ⟨hp3, Hp3.out.lt⟩
      go_upto_region 23 with fail
      rw [← hw17, ← hp3]
      clear hw17 hp3
      have HF17 : Hid (Fr NoBlk w15 w17) := HFw16.out.trans hw17f
      have HRA17 := Lib.hid (HRA15.out.nofr HF17.out)
      have HRB17 := Lib.hid (HRB15.out.nofr HF17.out)
      have q1 := strBs w17 aa an ac r0.val HRA17.out.len HRA17.out.rd
      have q2 := strBs w17 ba bn bc r0.val HRB17.out.len HRB17.out.rd
      have hqq : ((bstr r0.val).toList == (bstr r0.val).toList) = true := eq_bstr rfl
      have hwc : IntKind.u64.wrap ((ct : Int) + 1) = (cn : Int) := by
        have h1 := HVL.out.2.1
        have h2 := HCN.out
        have h3 : IntKind.u64.wrap ((ct : Int) + 1) = ((ct : Int) + 1) % 18446744073709551616 := rfl
        rw [h3, Int.emod_eq_of_lt (by omega) (by omega)]
        omega
      obtain ⟨mz, hmz⟩ : ∃ mz, mz = (rrange [] 1000 rs3).length := ⟨_, rfl⟩
      have HMZ : Hid (mz + oneB r0.has = m6 ∧ mz ≤ 103 ∧ m6 ≤ 104) := by
        have h1 := range_len H3.out.2.2 (by decide)
        have h2 := H3.out.2.1
        have h3 := HM6.out
        have h4 : (rrange [] 1000 rs3).length ≤ rs3.length := Nat.le_trans (List.length_take_le' _ _) (List.length_filter_le _ _)
        have h5 := H3.out.2.2
        have h6 : oneB r0.has ≤ 1 := by unfold oneB; split <;> omega
        rw [← hmz] at h1 h4
        refine ⟨by omega, by omega, by omega⟩
      have HRZ : Hid (Calls Try.prog 28 #[.pointer (some ⟨g, 0, none⟩), .string { data := #[] }, .int .i64 1000] w17 fun e w' => (∃ A c, e = .returned (.slice A mz c)) ∧ Fr NoBlk w17 w') := by
        refine (srange_any w17 g O15 3 rs3 (HS15.out.nofr HF17.out) (by have := H3.out.2.2; omega) ?_ [] 1000).mono ?_
        · intro x hx
          rw [HR3.out] at hx
          have hm : x = (key, ⟨false, [], home, cn⟩) ∨ x ∈ rs2 := by
            unfold rset at hx
            split at hx
            · exact mem_putL' hx
            · exact .inr (mem_delL' hx)
          rcases hm with rfl | hm
          · exact Nat.zero_le _
          · exact HV2.out x hm
        · rintro e w' ⟨A8, c8, us8, rfl, _, _, hf⟩
          rw [← hmz]
          exact ⟨⟨A8, c8, rfl⟩, hf⟩
      clear hw17f hmz
      rcases Bool.eq_false_or_eq_true r0.has with hh | hh
      · have hah : ah = true := HFRA.out.has.trans hh
        have hat : (at' : Int) = (ct : Int) := by have h : at' = r0.count := HFRA.out.count; rw [h, HVL.out.2.2]
        have a0 : w17.cell? ⟨p0, 0, none⟩ = some (.bool true) := by rw [← hah]; exact (HBA15.out.fr HF17.out fun e => e).cell 0
        have a1 : w17.cell? ⟨p0, 1, none⟩ = some (.slice aa an ac) := (HBA15.out.fr HF17.out fun e => e).cell 1
        have a3 : w17.cell? ⟨p0, 3, none⟩ = some (.int .u64 (ct : Int)) := by rw [← hat]; exact (HBA15.out.fr HF17.out fun e => e).cell 3
        have b0 : w17.cell? ⟨p1, 0, none⟩ = some (.bool true) := by rw [← hh]; exact (HBB15.out.fr HF17.out fun e => e).cell 0
        have b1 : w17.cell? ⟨p1, 1, none⟩ = some (.slice ba bn bc) := (HBB15.out.fr HF17.out fun e => e).cell 1
        have b2 : w17.cell? ⟨p1, 2, none⟩ = some (.int .i64 home) := (HBB15.out.fr HF17.out fun e => e).cell 2
        have b3 : w17.cell? ⟨p1, 3, none⟩ = some (.int .u64 (cn : Int)) := (HBB15.out.fr HF17.out fun e => e).cell 3
        have d2 : w17.cell? ⟨p2, 2, none⟩ = some (.int .i64 home) := (HBD15.out.fr HF17.out fun e => e).cell 2
        have d3 : w17.cell? ⟨p2, 3, none⟩ = some (.int .u64 (cn : Int)) := (HBD15.out.fr HF17.out fun e => e).cell 3
        have f0 : w17.cell? ⟨p3, 0, none⟩ = some (.bool false) := Hp3.out.cell 0
        have f2 : w17.cell? ⟨p3, 2, none⟩ = some (.int .i64 home) := Hp3.out.cell 2
        have f3 : w17.cell? ⟨p3, 3, none⟩ = some (.int .u64 (cn : Int)) := Hp3.out.cell 3
        have hn : IntKind.i64.wrap ((m6 : Int) - 1) = (mz : Int) := by
          have h := HMZ.out
          rw [hh] at h
          have h1 : oneB true = 1 := rfl
          rw [h1] at h
          rw [IntWalk.i64_in _ (by omega)]; omega
        clear hah hat hh
        go_wp2_with fail
        refine HRZ.out.mono ?_
        clear HRZ
        rintro e w18 ⟨⟨A8, c8, rfl⟩, hf18⟩
        have HFZ : Hid (Fr NoBlk W w18) := (HF15.out.trans HF17.out).trans hf18
        clear hf18
        go_wp2_with fail
        go_ret
        exact ⟨rfl, HFZ.out⟩
      · have hah : ah = false := HFRA.out.has.trans hh
        have hat : (at' : Int) = (ct : Int) := by have h : at' = r0.count := HFRA.out.count; rw [h, HVL.out.2.2]
        have a0 : w17.cell? ⟨p0, 0, none⟩ = some (.bool false) := by rw [← hah]; exact (HBA15.out.fr HF17.out fun e => e).cell 0
        have a1 : w17.cell? ⟨p0, 1, none⟩ = some (.slice aa an ac) := (HBA15.out.fr HF17.out fun e => e).cell 1
        have a3 : w17.cell? ⟨p0, 3, none⟩ = some (.int .u64 (ct : Int)) := by rw [← hat]; exact (HBA15.out.fr HF17.out fun e => e).cell 3
        have b0 : w17.cell? ⟨p1, 0, none⟩ = some (.bool false) := by rw [← hh]; exact (HBB15.out.fr HF17.out fun e => e).cell 0
        have b1 : w17.cell? ⟨p1, 1, none⟩ = some (.slice ba bn bc) := (HBB15.out.fr HF17.out fun e => e).cell 1
        have b2 : w17.cell? ⟨p1, 2, none⟩ = some (.int .i64 home) := (HBB15.out.fr HF17.out fun e => e).cell 2
        have b3 : w17.cell? ⟨p1, 3, none⟩ = some (.int .u64 (cn : Int)) := (HBB15.out.fr HF17.out fun e => e).cell 3
        have d2 : w17.cell? ⟨p2, 2, none⟩ = some (.int .i64 home) := (HBD15.out.fr HF17.out fun e => e).cell 2
        have d3 : w17.cell? ⟨p2, 3, none⟩ = some (.int .u64 (cn : Int)) := (HBD15.out.fr HF17.out fun e => e).cell 3
        have f0 : w17.cell? ⟨p3, 0, none⟩ = some (.bool false) := Hp3.out.cell 0
        have f2 : w17.cell? ⟨p3, 2, none⟩ = some (.int .i64 home) := Hp3.out.cell 2
        have f3 : w17.cell? ⟨p3, 3, none⟩ = some (.int .u64 (cn : Int)) := Hp3.out.cell 3
        have hn : m6 = mz := by
          have h := HMZ.out
          rw [hh] at h
          have h1 : oneB false = 0 := rfl
          rw [h1] at h
          omega
        subst hn
        clear hah hat hh
        go_wp2_with fail
        refine HRZ.out.mono ?_
        clear HRZ
        rintro e w18 ⟨⟨A8, c8, rfl⟩, hf18⟩
        have HFZ : Hid (Fr NoBlk W w18) := (HF15.out.trans HF17.out).trans hf18
        clear hf18
        go_wp2_with fail
        go_ret
        exact ⟨rfl, HFZ.out⟩

theorem paramsOk : ∀ t ∈ Try.f6.params.toList, Try.prog.readableRec t = true ∧ t < Try.prog.types.size := fun t ht => by
  have h := List.all_eq_true.1 (show (Try.f6.params.toList.all fun t => Try.prog.readableRec t && decide (t < Try.prog.types.size)) = true by kernel_rfl) t ht
  simpa using h

set_option maxRecDepth 100000 in
theorem lifted (os : Os) (started : os.Started) (H : Type) (enc : TypeId × Value → H) :
    ReturnsInHanded {} Try.checked os 6 .any (Rows.storeMovesSpec.pre6 enc Try.prog Try.f6 Rows.storeMovesRow.domain false) (Rows.storeMovesSpec.post enc Try.prog Try.f6 false true false false) := by
  refine returnsInHanded_of_change (C := Try.checked) own started (by kernel_rfl) Try.func6
    (ChangeSpec.witness6 (enc := enc) (C := Try.checked) false ⟨#[], #[.slice none 0 0, .string { data := #[] }, .int .i64 0], []⟩ 8 (by kernel_rfl) (by kernel_rfl) (by kernel_rfl) (by kernel_rfl)) ?_
  intro W base args ds gs before hval0 hW _ _
  have hval : ∀ (j : Nat) t v, Try.f6.params[j]? = some t → args[j]? = some v → Value.okWide Try.prog W .any base t v := hval0
  have hW' := hW
  obtain ⟨p, q, hA0, hV, rfl, _, _⟩ := hW
  have hA : DataW.TrodAll enc Try.prog W 0 (fun _ => true) true Try.f6.params.toList args.toList ds p := hA0
  rw [Try.params6] at hA hval
  obtain ⟨v0, vs0, d0, ds0, p0, q0, hargs, rfl, rfl, h0, r0⟩ := trodAll_cons hA
  obtain ⟨v1, vs1, d1, ds1, p1, q1, rfl, rfl, rfl, h1, r1⟩ := trodAll_cons r0
  obtain ⟨v2, vs2, d2, ds2, p2, q2, rfl, rfl, rfl, h2, r2⟩ := trodAll_cons r1
  obtain ⟨rfl, rfl, rfl⟩ := trodAll_nil r2
  obtain rfl : args = #[v0, v1, v2] := by cases args; simp_all
  obtain ⟨rfl, rfl⟩ := trodVars_none hV
  obtain ⟨A, c, l, rfl, hr, hx, hn, hm⟩ := open_ops (hval 0 _ v0 rfl rfl) h0
  obtain ⟨ky, rfl, rfl, rfl, wk⟩ := Go.ChangeMaps.open_string Try.underlying9 (hval 1 _ v1 rfl rfl) h1
  obtain ⟨z2, rfl, rfl, rfl, w2⟩ := open_int Try.underlying3 (hval 2 _ v2 rfl rfl) h2
  have walk := walk W A c l hr hx (Nat.le_trans hn hm) ky.data.toList (by rw [size_of]; exact wk) z2
  rw [bstr_eta] at walk
  clear hA0 hval0
  refine walk.mono fun e W' ⟨he, hf⟩ => ?_
  subst he
  exact ⟨_, rfl, law_post laidOut paramsOk rfl rfl Try.underlying4 hW' rfl rfl rfl hf⟩

theorem said : Rows.StoreMovesSaid :=
  OpenClaim.holds_of_wide 6 Try.f6 rfl rfl rfl rfl rfl rfl rfl ⟨rfl, rfl, rfl, rfl, rfl⟩ rfl rfl rfl rfl rfl (by kernel_rfl) Try.func6 (by kernel_rfl)
    (of_decide_eq_true (by kernel_rfl)) (by unfold Func.isWrapper; first | (rw [if_pos (by decide +kernel)]; kernel_rfl) | (rw [if_neg (by decide +kernel)]; exact ⟨rfl, rfl⟩))
    (fun os started H enc _ => lifted os started H enc)
end Go.Proofs.Ytfifpgefdcgbgaa.storeMoves
