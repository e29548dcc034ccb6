/- StorePages is true: the keys with values are gone through page by page. No condition. -/
import Derived.Test.YtfifpgefdcgbgaaSpk6
import Derived.Test.YtfifpgefdcgbgaaDo6
import Derived.Test.YtfifpgefdcgbgaaRfA
import Derived.ChangeMaps5
import Derived.Lib.Hide
namespace Go.Proofs.Ytfifpgefdcgbgaa.storePages
open Go.ChangeShapes Go.WideShapes Go.ChangeAt Go.RowKit
theorem OpIn.nofr {W W' : World} {x : Opn} (h : OpIn W x) (hf : Fr NoBlk W W') : OpIn W' x := ⟨⟨⟨h.1.1.1.nofr hf, h.1.1.2⟩, h.1.2⟩, h.2⟩
theorem bstr_add (a b : Bs) : bstr a ++ bstr b = bstr (a ++ b) := by
  unfold bstr
  rw [ByteArray.ext_iff]
  simp
theorem rows_cat {W : World} {N : Nat} {ys us : List ItR} {rs qs : List Rw} (h : RowsOf W N ys rs) (k : RowsOf W N us qs) : RowsOf W N (ys ++ us) (rs ++ qs) := by
  refine ⟨by rw [List.length_append, List.length_append, h.1, k.1], fun j a b ha hb => ?_⟩
  rcases Nat.lt_or_ge j ys.length with hj | hj
  · rw [List.getElem?_append_left hj] at ha
    rw [List.getElem?_append_left (by rw [← h.1]; exact hj)] at hb
    exact h.2 j a b ha hb
  · rw [List.getElem?_append_right hj] at ha
    rw [List.getElem?_append_right (by rw [← h.1]; exact hj), ← h.1] at hb
    exact k.2 _ a b ha hb
/-- the pages so far: got rows, what is left begins at key. -/
structure PgI (w0 wr : World) (A : Option Addr) (c m q t : Nat) (rs : List Rw) (key : Bs) : Prop where
  ex : ∃ ys got, ys.length = m ∧ wr.ownsRow w0.heap.size 61 5 (.slice A m c) m (itsR ys) ∧ RowsOf wr w0.heap.size ys got ∧ rs.filter (inR []) = got ++ rs.filter (inR key) ∧ got.length = t * (q + 1)
  fr : Fr NoBlk w0 wr
set_option maxRecDepth 100000 in
set_option maxHeartbeats 4000000 in
theorem walk (W : World) (A : Option Addr) (c : Nat) (xs : List Opn) (hr : Rd W A (opsc xs)) (hx : ∀ x ∈ xs, OpIn W x) (hm : xs.length ≤ maxLen) (most : Int) :
    Calls Try.prog 7 #[.slice A xs.length c, .int .i64 most] W fun e W' => e = .returned (.bool true) ∧ Fr NoBlk W W' := by
  obtain ⟨i0, hi, hz0, hz1, hz2⟩ := info_parts rowInfo
  obtain ⟨q, hqe, hq7⟩ := low_bits most 7 (by decide)
  have HS := Lib.hid (@speaks_any ⟨none⟩ W fun k e => by cases e)
  have HR := Lib.hid (And.intro hr (And.intro hx hm))
  obtain ⟨N, hN⟩ : ∃ N, N = xs.length := ⟨_, rfl⟩
  have HNN := Lib.hid hN
  rw [← hN]
  clear hr hx hm hN
  go_enter Try.func7, Try.ntmps7
  go_wp2_with fail
  refine HS.out.mono ?_
  clear HS
  rintro e w1 ⟨rfl, hf1⟩
  have HGR : Hid (Calls Try.prog 11 #[.slice A N c] w1 fun e w' => GreatPost xs e ∧ Fr NoBlk w1 w') := by
    have h := great_any w1 A c xs (HR.out.1.nofr hf1) (fun x hx => OpIn.nofr (HR.out.2.1 x hx) hf1) HR.out.2.2
    rw [← HNN.out] at h
    exact h
  have HF1 := Lib.hid hf1
  clear hf1
  go_wp2_with fail
  refine HGR.out.mono ?_
  clear HGR
  rintro e w2 ⟨⟨b, rfl, hsm⟩, hf2⟩
  have HSM := Lib.hid hsm
  have HF2 : Hid (Fr NoBlk W w2) := HF1.out.trans hf2
  clear hsm hf2
  cases b with
  | true =>
    go_wp2_with fail
    go_ret
    exact ⟨rfl, HF2.out⟩
  | false =>
  have HSML := Lib.hid (HSM.out rfl)
  go_wp2_with fail
  refine (@snew_any ⟨none⟩ w2 (fun k e => by cases e) 2).mono ?_
  rintro e w3 (⟨_, _, g, O, rfl, hs, hO, hf3⟩ | ⟨h, _⟩)
  rotate_left
  · exact absurd ⟨by decide, by decide⟩ h
  have HS3 : Hid (@Store ⟨none⟩ w3 g O 2 []) := hs
  have HO3 := Lib.hid hO
  have HF3 := Lib.hid hf3
  clear hs hO hf3
  go_wp2_with fail
  refine (@rnew_any ⟨none⟩ w3 (fun k e => by cases e) 2 (by decide)).mono ?_
  rintro e w4 ⟨gm, OM, rfl, hrs, hf4⟩
  have HP4 : Hid (Pair W w4 g gm 2 []) := @pair_new ⟨none⟩ _ _ _ _ _ _ _ _ HS3.out (fun b hb => Nat.le_trans HF2.out.size (HO3.out b hb)) (HF2.out.trans HF3.out) hrs hf4
  clear hrs hf4 HS3 HO3 HF3
  go_wp2_with fail
  go_loopw [28] (fun z wr => ∃ k : Nat, z = .int .i64 (k : Int) ∧ k ≤ N ∧ Hid (∃ rs, Pair W wr g gm 2 rs ∧ Lim k rs)) (fun z _ => N - (intOf z).toNat)
  case atStart => exact ⟨0, rfl, Nat.zero_le _, [], HP4.out, Lim.nil⟩
  case round =>
    obtain ⟨k, rfl, hk, HI⟩ := hrel
    clear HP4
    have hNs : N ≤ 100 := by have h1 := HSML.out.n; have h2 := HNN.out; omega
    have hw2 : IntKind.i64.wrap ((k : Int) + 1) = ((k + 1 : Nat) : Int) := by rw [IntWalk.i64_in _ (by omega)]; omega
    by_cases hlt : k < N
    · obtain ⟨x, hx⟩ : ∃ x, xs[k]? = some x := ⟨_, List.getElem?_eq_getElem (by have := HNN.out; omega)⟩
      have hxs := HSML.out.o x (List.mem_of_getElem? hx)
      obtain ⟨rs, hpr, hlm⟩ := HI.out
      have hfW : Fr NoBlk W wr := by obtain ⟨_, _, o, h⟩ := hpr; exact @PairS.fr ⟨o⟩ _ _ _ _ _ _ _ _ _ h
      obtain ⟨b, o, hA, c0, c1, c2, c4⟩ := (HR.out.1.nofr hfW).opn hx
      have hin := HR.out.2.1 x (List.mem_of_getElem? hx)
      subst hA
      obtain ⟨wa, hwa⟩ : ∃ w, w = wr.alloc (.cells (opa x) 33) := ⟨_, rfl⟩
      have hfa : Fr NoBlk wr wa := by rw [hwa]; exact (Fr.refl _ _).alloc _
      have hdo := do_any W wa g gm 2 k rs (hpr.nofr hfa) hlm (by omega) x hin.1.1 hxs
      have HBW : Hid (Bk wa wr.heap.size 33 (opa x)) := by show Bk _ _ _ _; rw [hwa]; exact Bk.new _ _ _
      have HWA := Lib.hid hwa
      have HFA := Lib.hid hfa
      clear hx hxs hpr hlm hfW hin hwa hfa HI
      obtain ⟨kind, no, name, ⟨va, vc, vb⟩⟩ := x
      unfold opa at HWA hdo HBW
      unfold st at c2 HWA hdo HBW
      unfold sl at c4 HWA hdo HBW
      dsimp only at c0 c1 c2 c4 HWA hdo HBW
      obtain ⟨vl, hvl⟩ : ∃ vl, vl = vb.length := ⟨_, rfl⟩
      rw [← hvl] at c4 HWA hdo HBW
      have HDO := Lib.hid hdo
      clear hvl hdo
      obtain ⟨pb, hpb⟩ : ∃ pb, pb = wr.heap.size := ⟨_, rfl⟩
      rw [← hpb] at HBW
      go_upto_region 12 with fail
      rw [← HWA.out, ← hpb]
      have b0 : wa.cell? ⟨pb, 0, none⟩ = some (.int .i64 kind) := HBW.out.cell 0
      have b1 : wa.cell? ⟨pb, 1, none⟩ = some (.int .i64 no) := HBW.out.cell 1
      have b2 : wa.cell? ⟨pb, 2, none⟩ = some (.string (bstr name)) := HBW.out.cell 2
      have b3 : wa.cell? ⟨pb, 3, none⟩ = some (.slice va vl vc) := HBW.out.cell 3
      clear HWA hpb c0 c1 c2 c4
      go_wp2_with fail
      refine HDO.out.mono ?_
      clear HDO
      rintro e w5 ⟨rfl, rs2, hp5, hl5⟩
      have HI5 : Hid (∃ rs, Pair W w5 g gm 2 rs ∧ Lim (k + 1) rs) := ⟨rs2, hp5, hl5⟩
      clear hp5 hl5
      go_wp2_with fail
      go_roundw
      case rel => exact ⟨k + 1, by go_num, by omega, HI5⟩
      case measure => simp [intOf]; omega
    · obtain ⟨rs, ⟨O5, OM5, o5, hpr⟩, hlm⟩ := HI.out
      obtain ⟨E, hps⟩ : ∃ E : Ex, PairS W wr g gm 2 rs rs O5 OM5 := ⟨⟨o5⟩, hpr⟩
      have HPS := Lib.hid hps
      have HLM : Hid (Lim k rs ∧ k ≤ 100) := ⟨hlm, by omega⟩
      clear hpr hps hlm HI hw2
      obtain ⟨w0, hw0⟩ : ∃ w0, w0 = wr := ⟨_, rfl⟩
      subst hw0
      obtain ⟨n, hn⟩ : ∃ n, n = q + 1 := ⟨_, rfl⟩
      have hwn : IntKind.i64.wrap (1 + bits .and .i64 most 7) = (n : Int) := by
        have h : bits .and .i64 most 7 = (q : Int) := hqe
        rw [h, IntWalk.i64_in _ (by omega)]
        omega
      obtain ⟨pq, hpq⟩ : ∃ p, p = w0.heap.size := ⟨_, rfl⟩
      obtain ⟨wq, hwq⟩ : ∃ w, w = w0.alloc (.cells #[] 61) := ⟨_, rfl⟩
      have HPG : Hid (PgI w0 wq (some ⟨pq, 0, none⟩) 0 0 q 0 rs []) := ⟨⟨[], [], rfl, own_litW 5 (by rw [hwq, hpq]; exact Bk.new _ _ _) (by rw [hpq]; exact Nat.le_refl _), ⟨rfl, fun j a b ha _ => by cases ha⟩, rfl, by rw [Nat.zero_mul]; rfl⟩, by rw [hwq]; exact (Fr.refl _ _).alloc _⟩
      have HQ7 : Hid (q ≤ 7 ∧ n = q + 1) := ⟨hq7, hn⟩
      clear hqe hq7 hn
      go_upto_region 15 with fail
      rw [← hwq, ← hpq]
      clear hwq hpq hwn hlt hk
      go_wp2_with fail
      go_loopw [11, 12, 13] (fun f a z wt => ∃ (key : Bs) (Aa : Option Addr) (m ca t : Nat), f = .string (bstr key) ∧ a = .slice Aa m ca ∧ z = .int .i64 (t : Int) ∧ t ≤ 200 ∧ Hid (PgI w0 wt Aa ca m q t rs key)) (fun _ _ z _ => 200 - (intOf z).toNat)
      case atStart => exact ⟨[], _, 0, 0, 0, rfl, rfl, rfl, by decide, HPG.out⟩
      case round =>
        obtain ⟨key, Aa, m, ca, t, rfl, rfl, rfl, ht, HI⟩ := hrel
        clear HPG
        by_cases htl : t < 200
        · have HRG : Hid (Calls Try.prog 28 #[.pointer (some ⟨g, 0, none⟩), .string (bstr key), .int .i64 (n : Int)] wr (RowsPost wr (rrange key (n : Int) rs))) := srange_any wr g O5 2 rs (HPS.out.st.nofr HI.out.fr) (by have h1 := HLM.out.1.1; have h2 := HLM.out.2; omega) HLM.out.1.val key _
          have hti : (t : Int) < 200 := by omega
          have hw2 : IntKind.i64.wrap ((t : Int) + 1) = ((t + 1 : Nat) : Int) := by rw [IntWalk.i64_in _ (by omega)]; omega
          clear htl
          go_wp2_with fail
          refine HRG.out.mono ?_
          clear HRG
          rintro e w5 ⟨A2, e2, us, rfl, ho2, hrow2, hf2⟩
          obtain ⟨pg, hpg⟩ : ∃ pg, pg = rrange key (n : Int) rs := ⟨_, rfl⟩
          rw [← hpg] at ho2 hrow2 ⊢
          have hpt : pg = (rs.filter (inR key)).take n := by rw [hpg]; unfold rrange; rw [Int.toNat_natCast]
          obtain ⟨m2, hm2⟩ : ∃ m2, m2 = pg.length := ⟨_, rfl⟩
          rw [← hm2] at ho2 ⊢
          obtain ⟨ys, got, hym, hoA, hrA, hz, hgl⟩ := HI.out.ex
          have hmr : m ≤ 100 ∧ m2 ≤ 100 ∧ m2 ≤ n := by
            have h1 := congrArg List.length hz
            rw [List.length_append] at h1
            have h2 := List.length_filter_le (inR []) rs
            have h3 := HLM.out.1.1
            have h7 := HLM.out.2
            have h8 := HQ7.out
            have h4 := hrA.1
            have h5 : m2 ≤ (rs.filter (inR key)).length := by rw [hm2, hpt]; exact List.length_take_le' _ _
            have h6 : m2 ≤ n := by rw [hm2, hpt]; exact List.length_take_le _ _
            omega
          have HF0 := Lib.hid HI.out.fr
          have HO5' : Hid (w5.ownsRow w0.heap.size 61 5 (.slice Aa m ca) m (itsR ys)) := own_fr hoA hf2 fun _ _ e => e
          have HRO : Hid (RowsOf w5 w0.heap.size ys got) := RowsOf.fr hrA hf2 fun _ _ e => e
          have HO2 := Lib.hid ho2
          have HRW2 := Lib.hid hrow2
          have HPT : Hid (pg = (rs.filter (inR key)).take n ∧ m2 = pg.length ∧ ys.length = m ∧ rs.filter (inR []) = got ++ rs.filter (inR key) ∧ got.length = t * (q + 1)) := ⟨hpt, hm2, hym, hz, hgl⟩
          have HMR := Lib.hid hmr
          have HF5 : Hid (Fr NoBlk w0 w5) := HI.out.fr.trans hf2
          have HW5 : Hid (wr.heap.size ≤ w5.heap.size) := hf2.size
          have HAP : Hid (∀ k, (Value.slice Aa m ca).ownBlock = some k → k < wr.heap.size) := fun k hk => (own_in hoA hk).2
          have HL2 : Hid ((itsR us).length = m2 * 5) := by show _ = _; rw [itsR_len, hrow2.1, hm2]
          have HR2 : Hid (Rd w5 A2 (itsR us)) := Rd.of_ownW ho2
          have HN2 : Hid (A2 = none → e2 = 0) := by
            obtain ⟨A', c', e1, _, h2⟩ := own_form ho2
            injection e1 with e1 _ e3
            intro h
            rw [e3]
            exact h2 (e1 ▸ h)
          clear ho2 hrow2 hf2 hpg hpt hm2 hym hoA hrA hz hgl hmr HI
          go_wp2_with (at_builtin; go_loud (refine wpList_appW rfl _ _ 40 rfl w0.heap.size 61 i0 _ 5 64 Try.underlying40 hi hz0 hz1 hz2 rfl (by decide) (.slice Aa m ca) m (itsR ys) rfl HO5'.out A2 e2 m2 (itsR us) rfl HL2.out HR2.out (itsR_one _) HN2.out (by unfold maxLen; have := HMR.out; omega) (by have := HMR.out; omega) HF5.out.size ?_))
          intro v6 w6 ho6 hg6 _
          obtain ⟨A6, c6, rfl, _, _⟩ := own_form ho6
          have HF6 : Hid (Fr NoBlk w0 w6) := grown_no HF5.out HO5'.out hg6
          have hx6 : Fr (fun i => some i = (Value.slice Aa m ca).ownBlock) w5 w6 := Fr.ofGrown hg6
          have hbr := Byt.not_row HO5'.out (by decide)
          obtain ⟨m6, hm6⟩ : ∃ m6, m6 = m + m2 := ⟨_, rfl⟩
          have HO6 : Hid (w6.ownsRow w0.heap.size 61 5 (.slice A6 m6 c6) m6 (itsR (ys ++ us))) := by show World.ownsRow _ _ _ _ _ _ _; rw [itsR_append, hm6]; exact ho6
          have HR6 : Hid (RowsOf w6 w0.heap.size (ys ++ us) (got ++ pg)) := rows_cat (RowsOf.fr HRO.out hx6 hbr) (RowsOf.low (RowsOf.fr HRW2.out hx6 hbr) HF0.out.size)
          have HP6 : Hid (Rd w6 A2 (itsR us)) := Rd.of_ownW (own_fr HO2.out hx6 fun k hk e => by
            have h1 := (own_in HO2.out hk).1
            have h2 := HAP.out k e.symm
            omega)
          have HM6 : Hid (m6 = m + m2) := hm6
          have HUY : Hid (us.length = m2) := by show _ = _; rw [HRW2.out.1]; exact HPT.out.2.1.symm
          rw [← hm6]
          clear ho6 hg6 hx6 hbr hm6 HO5' HRO HO2 HF5 HR2 HL2 HN2 HF0
          by_cases hfull : m2 < n
          · have hgt : ¬ (n : Int) < (m2 : Int) := by omega
            have hltI : (m2 : Int) < (n : Int) := by omega
            have HZ : Hid (rrange [] 1000 rs = got ++ pg) := by
              have h := HPT.out
              show _ = _
              rw [range_all (HLM.out.1.1) (by have := HLM.out.2; omega), h.2.2.2.1, h.1, List.take_of_length_le]
              have h1 : m2 = ((rs.filter (inR key)).take n).length := by rw [← h.1]; exact h.2.1
              rw [List.length_take] at h1
              omega
            have HRL : Hid (Calls Try.prog 28 #[.pointer (some ⟨g, 0, none⟩), .string { data := #[] }, .int .i64 1000] w6 (RowsPost w6 (rrange [] 1000 rs))) := srange_any w6 g O5 2 rs (HPS.out.st.nofr HF6.out) (by have h1 := HLM.out.1.1; have h2 := HLM.out.2; omega) HLM.out.1.val [] 1000
            clear hfull
            go_wp2_with fail
            refine HRL.out.mono ?_
            clear HRL
            rintro e w7 ⟨A7, e7, us7, rfl, ho7, hrow7, hf7⟩
            obtain ⟨z7, hz7⟩ : ∃ z7, z7 = rrange [] 1000 rs := ⟨_, rfl⟩
            rw [← hz7] at ho7 hrow7 ⊢
            obtain ⟨m7, hm7⟩ : ∃ m7, m7 = z7.length := ⟨_, rfl⟩
            rw [← hm7] at ho7 ⊢
            have HSA : Hid (Calls Try.prog 19 #[.slice A6 m6 c6, .slice A7 m7 e7] w7 fun e w' => e = .returned (.bool true) ∧ Fr NoBlk w7 w') := by
              have h1 : (ys ++ us).length = m6 := by rw [List.length_append, HPT.out.2.2.1, HUY.out]; exact HM6.out.symm
              have h2 : us7.length = m7 := by rw [hrow7.1, hm7]
              have hlx : ExL w0.heap.size := HPS.out.st.lx
              have h := same_yes w7 A6 c6 (ys ++ us) A7 e7 us7 z7 ((Rd.of_ownW HO6.out).nofr hf7) (Rd.of_ownW ho7) (by rw [hz7, HZ.out]; exact (HR6.out.told hlx).nofr hf7) (hrow7.told (hlx.le HF6.out.size)) (by
                have h3 := HM6.out
                have h4 := HMR.out
                have h5 := HR6.out.1
                rw [hz7, HZ.out, ← h5]
                omega)
              rw [h1, h2] at h
              exact h
            have HF7 : Hid (Fr NoBlk W w7) := (HPS.out.fr.trans HF6.out).trans hf7
            clear ho7 hrow7 hf7 hz7 hm7
            go_wp2_with fail
            refine HSA.out.mono ?_
            clear HSA
            rintro e w8 ⟨rfl, hf8⟩
            have HF8 : Hid (Fr NoBlk W w8) := HF7.out.trans hf8
            clear hf8
            go_wp2_with fail
            go_ret
            exact ⟨rfl, HF8.out⟩
          · obtain rfl : m2 = n := by have := HMR.out; omega
            obtain ⟨last, hla⟩ : ∃ last, (rs.filter (inR key))[q]? = some last := ⟨_, List.getElem?_eq_getElem (by
              have h := HPT.out
              have h1 := congrArg List.length h.1
              have h2 := HQ7.out
              rw [List.length_take] at h1
              omega)⟩
            have hpl : pg[q]? = some last := by
              rw [HPT.out.1, List.getElem?_take, if_pos (by have := HQ7.out; omega)]
              exact hla
            obtain ⟨y, hy⟩ : ∃ y, us[q]? = some y := ⟨_, List.getElem?_eq_getElem (by have h1 := HUY.out; have h2 := HQ7.out; omega)⟩
            have hyk : y.1 = last.1 := (HRW2.out.2 q y last hy hpl).1
            obtain ⟨bp, op, hA2, hcell⟩ := HP6.out (by rw [itsR_len]; have h1 := HUY.out; have h2 := HQ7.out; omega)
            subst hA2
            have k0 : w6.cell? ⟨bp, op + q * 5, none⟩ = some (.string (bstr last.1)) := by
              rw [← hyk]
              exact hcell (q * 5 + 0) _ ((itsR_get us q y hy 0 (by decide)).trans rfl)
            have hkl : last.1.length ≤ 500 := (HLM.out.1.2 last (List.mem_filter.1 (List.mem_of_getElem? hla)).1).2.2
            have hsz : (bstr last.1).size = last.1.length := bstr_size _
            have HI2 : Hid (PgI w0 w6 A6 c6 m6 q (t + 1) rs (last.1 ++ [0])) := by
              have h := HPT.out
              refine ⟨⟨ys ++ us, got ++ pg, ?_, HO6.out, HR6.out, ?_, ?_⟩, HF6.out⟩
              · rw [List.length_append, h.2.2.1, HUY.out]; exact HM6.out.symm
              · rw [h.2.2.2.1, page_next HPS.out.st.up key q hla, ← HQ7.out.2, List.append_assoc]
                refine congrArg _ ?_
                rw [h.1]
                exact (List.take_append_drop _ _).symm
              · rw [List.length_append, h.2.2.2.2, ← h.2.1, HQ7.out.2, Nat.succ_mul]
            have hw4 : IntKind.i64.wrap ((m2 : Int) - 1) = (q : Int) := by have h2 := HQ7.out; rw [IntWalk.i64_in _ (by omega)]; omega
            have hqm : (q : Int) < (m2 : Int) := by have h2 := HQ7.out; omega
            have hgt : ¬ (m2 : Int) < (m2 : Int) := by omega
            clear hfull hla hpl hy hyk hcell
            go_wp2_with fail
            go_roundw
            case rel => exact ⟨last.1 ++ [0], A6, m6, c6, t + 1, by rw [← bstr_add]; rfl, rfl, by go_num, by omega, HI2⟩
            case measure => simp [intOf]; omega
        · exfalso
          obtain ⟨ys, got, hym, hoA, hrA, hz, hgl⟩ := HI.out.ex
          have h1 := congrArg List.length hz
          rw [List.length_append] at h1
          have h2 := List.length_filter_le (inR []) rs
          have h3 := HLM.out.1.1
          have h7 := HLM.out.2
          obtain rfl : t = 200 := by omega
          rw [hgl] at h1
          omega

theorem paramsOk : ∀ t ∈ Try.f7.params.toList, Try.prog.readableRec t = true ∧ t < Try.prog.types.size := fun t ht => by
  have h := List.all_eq_true.1 (show (Try.f7.params.toList.all fun t => Try.prog.readableRec t && decide (t < Try.prog.types.size)) = true by kernel_rfl) t ht
  simpa using h

set_option maxRecDepth 100000 in
theorem lifted (os : Os) (started : os.Started) (H : Type) (enc : TypeId × Value → H) :
    ReturnsInHanded {} Try.checked os 7 .any (Rows.storePagesSpec.pre6 enc Try.prog Try.f7 Rows.storePagesRow.domain false) (Rows.storePagesSpec.post enc Try.prog Try.f7 false true false false) := by
  refine returnsInHanded_of_change (C := Try.checked) own started (by kernel_rfl) Try.func7
    (ChangeSpec.witness6 (enc := enc) (C := Try.checked) false ⟨#[], #[.slice none 0 0, .int .i64 0], []⟩ 8 (by kernel_rfl) (by kernel_rfl) (by kernel_rfl) (by kernel_rfl)) ?_
  intro W base args ds gs before hval0 hW _ _
  have hval : ∀ (j : Nat) t v, Try.f7.params[j]? = some t → args[j]? = some v → Value.okWide Try.prog W .any base t v := hval0
  have hW' := hW
  obtain ⟨p, q, hA0, hV, rfl, _, _⟩ := hW
  have hA : DataW.TrodAll enc Try.prog W 0 (fun _ => true) true Try.f7.params.toList args.toList ds p := hA0
  rw [Try.params7] at hA hval
  obtain ⟨v0, vs0, d0, ds0, p0, q0, hargs, rfl, rfl, h0, r0⟩ := trodAll_cons hA
  obtain ⟨v1, vs1, d1, ds1, p1, q1, rfl, rfl, rfl, h1, r1⟩ := trodAll_cons r0
  obtain ⟨rfl, rfl, rfl⟩ := trodAll_nil r1
  obtain rfl : args = #[v0, v1] := by cases args; simp_all
  obtain ⟨rfl, rfl⟩ := trodVars_none hV
  obtain ⟨A, c, l, rfl, hr, hx, hn, hm⟩ := open_ops (hval 0 _ v0 rfl rfl) h0
  obtain ⟨z1, rfl, rfl, rfl, w1⟩ := open_int Try.underlying3 (hval 1 _ v1 rfl rfl) h1
  have walk := walk W A c l hr hx (Nat.le_trans hn hm) z1
  clear hA0 hval0
  refine walk.mono fun e W' ⟨he, hf⟩ => ?_
  subst he
  exact ⟨_, rfl, law_post laidOut paramsOk rfl rfl Try.underlying4 hW' rfl rfl rfl hf⟩

theorem said : Rows.StorePagesSaid :=
  OpenClaim.holds_of_wide 7 Try.f7 rfl rfl rfl rfl rfl rfl rfl ⟨rfl, rfl, rfl, rfl, rfl⟩ rfl rfl rfl rfl rfl (by kernel_rfl) Try.func7 (by kernel_rfl)
    (of_decide_eq_true (by kernel_rfl)) (by unfold Func.isWrapper; first | (rw [if_pos (by decide +kernel)]; kernel_rfl) | (rw [if_neg (by decide +kernel)]; exact ⟨rfl, rfl⟩))
    (fun os started H enc _ => lifted os started H enc)
end Go.Proofs.Ytfifpgefdcgbgaa.storePages
