/- LeadPlays is true: every call of any script on a leader of any voters answers exactly as the document says. No condition. -/
import Derived.Test.YtimfinpifngdiaaPlM
import Derived.BigQuiet
import Derived.Deep.QuietTactic
namespace Go.Proofs.Ytimfinpifngdiaa.leadPlays
open Go.ChangeShapes Go.WideShapes Go.ChangeAt Go.RowKit Go.Maps

theorem low_bits (k : Int) (m : Nat) (hm : m ≤ 65535) : ∃ q : Nat, bits .and .i64 k (m : Int) = (q : Int) ∧ q ≤ m := by
  have e : (BitVec.ofInt 64 (m : Int)).toNat = m := by rw [BitVec.ofInt_natCast, BitVec.toNat_ofNat]; omega
  have hq : (BitVec.ofInt 64 k &&& BitVec.ofInt 64 (m : Int)).toNat ≤ m := by
    rw [BitVec.toNat_and]
    have := Nat.and_le_right (n := (BitVec.ofInt 64 k).toNat) (m := (BitVec.ofInt 64 (m : Int)).toNat)
    omega
  refine ⟨(BitVec.ofInt 64 k &&& BitVec.ofInt 64 (m : Int)).toNat, ?_, hq⟩
  show IntKind.i64.wrap (((BitVec.ofInt 64 k &&& BitVec.ofInt 64 (m : Int)).toNat : Nat) : Int) = _
  generalize (BitVec.ofInt 64 k &&& BitVec.ofInt 64 (m : Int)).toNat = q at *
  exact IntWalk.i64_in _ (by omega)

set_option maxRecDepth 100000 in
set_option maxHeartbeats 8000000 in
theorem walk (w : World) (vo fm : Int) (A : Option Addr) (c : Nat) (xs : List LdOp) (hr : Rd w A (ldos xs)) (hx : ∀ x ∈ xs, LdOpIn w x) (hm : xs.length ≤ maxLen) :
    Calls Try.prog 3 #[.int .i64 vo, .int .i64 fm, .slice A xs.length c] w fun e w' => e = .returned (.bool true) ∧ Fr NoBlk w w' := by
  have HR := Lib.hid hr
  have HX := Lib.hid hx
  have HM := Lib.hid hm
  clear hr hx
  unfold maxLen at hm
  go_enter Try.func3, Try.ntmps3
  go_wp2_with fail
  refine (speaks_any _).mono ?_
  rintro e w1 ⟨rfl, hf1⟩
  have HF1 := Lib.hid hf1
  clear hf1
  go_wp2_with fail
  refine (great_any w1 A c xs (HR.out.nofr HF1.out) HM.out).mono ?_
  rintro e w2 ⟨gt, rfl, hgt, hf2⟩
  have HG := Lib.hid hgt
  have HF2 := Lib.hid (HF1.out.trans hf2)
  clear hgt hf2 HF1
  cases gt with
  | true =>
    go_wp2_with fail
    go_ret
    exact ⟨rfl, HF2.out⟩
  | false =>
  have HG2 := Lib.hid (HG.out rfl)
  clear HG
  go_wp2_with fail
  refine (newS_any w2 7 vo fm).mono ?_
  rintro e w3 ⟨hf3, h3⟩
  have HF3 := Lib.hid (HF2.out.trans hf3)
  clear hf3
  rcases h3 with ⟨hv1, hv9, hf0, hf64, g, bp, bt, bv, rfl, hl3⟩ | ⟨hno, rfl⟩
  rotate_left
  · have HNO := Lib.hid hno
    clear hno
    go_wp2_with fail
    refine (rnew_any w3 vo fm).mono ?_
    rintro e w4 ⟨hf4, h4⟩
    have HF4 := Lib.hid (HF3.out.trans hf4)
    clear hf4
    rcases h4 with ⟨k1, k2, k3, k4, _⟩ | ⟨_, rfl⟩
    · exact absurd ⟨k1, k2, k3, k4⟩ HNO.out
    go_wp2_with fail
    go_ret
    exact ⟨rfl, HF4.out⟩
  have HL3 := Lib.hid (hl3.low HF2.out.size)
  have HV := Lib.hid (And.intro hv1 (And.intro hv9 (And.intro hf0 hf64)))
  clear hl3 hv1 hv9 hf0 hf64
  go_wp2_with fail
  refine (rnew_any w3 vo fm).mono ?_
  rintro e w4 ⟨hf4, h4⟩
  rcases h4 with ⟨_, _, _, _, gr, rfl, hr4⟩ | ⟨hno, _⟩
  rotate_left
  · exact absurd HV.out hno
  have H4 : Hid (MAt w w4 g bp bt bv gr none 0 (newS vo fm) (rnew vo fm)) := ⟨HL3.out.nofr hf4, hr4.low HF3.out.size, HF3.out.trans hf4⟩
  have J4 : Hid (J (newS vo fm) (rnew vo fm) 0) := J.new HV.out.1 HV.out.2.1 HV.out.2.2.2
  clear hf4 hr4 HL3 HF3 HF2 HV
  go_wp2_with fail
  go_loopw [63] (fun s wr => ∃ i : Nat, i ≤ xs.length ∧ s = .int .i64 i ∧ Hid (∃ TA tc L R, MAt w wr g bp bt bv gr TA tc L R ∧ J L R (101 * i))) (fun s _ => xs.length - (intOf s).toNat)
  case atStart => exact ⟨0, Nat.zero_le _, rfl, _, _, _, _, H4.out, J4.out⟩
  case round =>
    clear H4 J4
    obtain ⟨k, hk, rfl, HE⟩ := hrel
    obtain ⟨TA, tc, L, R, hmm, hj⟩ := HE.out
    have HMM := Lib.hid hmm
    have HJ := Lib.hid hj
    clear hmm hj HE
    by_cases hlt : k < xs.length
    rotate_left
    · go_wp2_with fail
      go_ret
      exact ⟨rfl, HMM.out.fr⟩
    obtain ⟨x, hx⟩ : ∃ x, xs[k]? = some x := ⟨_, List.getElem?_eq_getElem hlt⟩
    obtain ⟨b, o, rfl, d0, d1, d2, d3, d4⟩ := (HR.out.nofr HMM.out.fr).ldop hx
    have HXI := Lib.hid (HX.out x (List.mem_of_getElem? hx))
    have HX100 := Lib.hid (HG2.out.2 x (List.mem_of_getElem? hx))
    have HK200 : Hid (k < 200) := by show _ < _; have := HG2.out.1; omega
    have HKX : Hid (k < xs.length) := hlt
    clear hx
    obtain ⟨xk, xv, xsl, xA, xc, xvs, xval⟩ := x
    obtain ⟨w5, hw5⟩ : ∃ w5, w5 = wr.alloc (.cells (ldoa ⟨xk, xv, xsl, xA, xc, xvs, xval⟩) 34) := ⟨_, rfl⟩
    obtain ⟨ob, hob⟩ : ∃ ob, ob = wr.heap.size := ⟨_, rfl⟩
    have HQ5 : Hid (QAt w w5 ob (ldoa ⟨xk, xv, xsl, xA, xc, xvs, xval⟩) g bp bt bv gr TA tc L R) := by
      refine ⟨?_, ?_⟩
      · rw [hw5]; exact HMM.out.nofr ((Fr.refl _ _).alloc _)
      · rw [hw5, hob]; exact Bk.new _ _ _
    have hb1 : L.nv ≤ 101 * k := HJ.out.b1
    have hb2 : R.told.length ≤ 101 * k := HJ.out.b2
    have hn9 := HJ.out.n9
    have hnt9 : L.nt ≤ 9 := by rw [HJ.out.nt]; exact cnt_le _
    have hk2 := HK200.out
    have hx1 : xvs.length ≤ 100 := HX100.out
    have KV := Lib.hid fun W hh => votes_any W xA xc xvs hh hx1
    have KP := Lib.hid fun W A2 c2 hl hrd hap => promS_any W w.heap.size g bp bt bv L hl (by omega) xv HXI.out.w1 A2 c2 xvs (by omega) hrd HXI.out.wv hap
    have KR := Lib.hid fun W hrd hB hh => rprom_any W w.heap.size gr tc TA R hrd hB xv xA xc xvs (by omega) hh HXI.out.nil (fun hpos j hj e => by have := Rd.lt HXI.out.rd hpos hj; have := hrd.b0; omega)
    have KO := Lib.hid fun W hl => offerS_any W w.heap.size g bp bt bv L hl (by omega) xval
    have KRO := Lib.hid fun W hl => roff_any W w.heap.size gr tc TA R hl (by omega) xval
    have KT := Lib.hid fun W hl => takenS_any W w.heap.size g bp bt bv L hl (by omega) xv xsl HXI.out.w1
    have KRT := Lib.hid fun W hl => rtaken_any W w.heap.size gr tc TA R hl (by omega) xv xsl
    have JP := Lib.hid ((HJ.out.prom xv xvs).mono (b' := 101 * (k + 1)) (by omega))
    have JO := Lib.hid ((HJ.out.offer xval).mono (b' := 101 * (k + 1)) (by omega))
    have JT := Lib.hid ((HJ.out.taken xv xsl).2.mono (b' := 101 * (k + 1)) (by omega))
    rw [HJ.out.offB] at KO
    rw [(HJ.out.taken xv xsl).1] at KT
    obtain ⟨ts, tb, htsb⟩ := tup_form (rtaken R xv xsl).2
    rw [htsb] at KT KRT
    unfold evS at KO
    obtain ⟨LP, hLP⟩ : ∃ LP, LP = promS L xv xvs := ⟨_, rfl⟩
    obtain ⟨RP, hRP⟩ : ∃ RP, RP = rprom R xv xvs := ⟨_, rfl⟩
    obtain ⟨LO, hLO⟩ : ∃ LO, LO = offS L xval := ⟨_, rfl⟩
    obtain ⟨RO, hRO⟩ : ∃ RO, RO = roff R xval := ⟨_, rfl⟩
    obtain ⟨LT, hLT⟩ : ∃ LT, LT = (takenS L xv xsl).1 := ⟨_, rfl⟩
    obtain ⟨RT, hRT⟩ : ∃ RT, RT = (rtaken R xv xsl).1 := ⟨_, rfl⟩
    rw [← hLP] at KP JP
    rw [← hRP] at KR JP
    rw [← hLO] at KO JO
    rw [← hRO] at KRO JO
    rw [← hLT] at KT JT
    rw [← hRT] at KRT JT
    generalize roffB R = fo at KO KRO
    have HRDX := Lib.hid fun W (hf : Fr NoBlk w W) => HXI.out.rd.nofr hf
    unfold ldoa at HQ5 hw5
    obtain ⟨m, hmv⟩ : ∃ m, m = xvs.length := ⟨_, rfl⟩
    have hm100 : m ≤ 100 := by omega
    dsimp only at d0 d1 d2 d3 d4 hw5 HQ5 HRDX
    rw [← hmv] at d3 hw5 HQ5 KV KP KR
    clear hLP hRP hLO hRO hLT hRT htsb hb1 hb2 hn9 hnt9 hmv hx1
    have sOf : Hid (∀ W, Bk W ob 34 #[.int .i64 xk, .int .i64 xv, .int .i64 xsl, .slice xA m xc, .string xval] → W.cell? ⟨ob, 0, none⟩ = some (.int .i64 xk) ∧ W.cell? ⟨ob, 1, none⟩ = some (.int .i64 xv) ∧ W.cell? ⟨ob, 2, none⟩ = some (.int .i64 xsl) ∧ W.cell? ⟨ob, 3, none⟩ = some (.slice xA m xc) ∧ W.cell? ⟨ob, 4, none⟩ = some (.string xval)) := fun W h => ⟨h.cell 0, h.cell 1, h.cell 2, h.cell 3, h.cell 4⟩
    obtain ⟨q, hq, hq3⟩ := low_bits xk 3 (by omega)
    rw [show ((3 : Nat) : Int) = 3 from rfl] at hq
    have hwr : IntKind.i64.wrap ((k : Int) + 1) = (k : Int) + 1 := IntWalk.i64_in _ (by omega)
    have c0 := (sOf.out _ HQ5.out.b).1
    rw [hw5, hob] at c0
    by_cases hq0 : q = 0
    · subst hq0
      rw [show ((0 : Nat) : Int) = 0 from rfl] at hq
      have c3 := (sOf.out _ HQ5.out.b).2.2.2.1
      rw [hw5, hob] at c3
      go_wp2_with fail
      rw [← hw5, ← hob]
      clear hw5 hob d0 d1 d2 d3 d4 c0 c3
      refine (KV.out _ (HRDX.out _ HQ5.out.m.fr)).mono ?_
      clear KV
      rintro e w6 ⟨A6, c6, rfl, ho6, hf6⟩
      have HO6 := Lib.hid (own_base ho6 HQ5.out.m.fr.size)
      have HQ6 := Lib.hid (HQ5.out.nofr hf6)
      clear ho6 hf6 HQ5
      have c1 := (sOf.out _ HQ6.out.b).2.1
      go_wp2_with fail
      refine (KP.out _ A6 c6 HQ6.out.m.ld (Rd.of_ownW HO6.out) (vrow_apart HQ6.out HO6.out)).mono ?_
      clear KP
      rintro e w7 ⟨rfl, hl7, hf7⟩
      have hC : ∀ j, PrBS g bp bv j → j = g ∨ j = bp ∨ j = bt ∨ j = bv := fun j e => by rcases e with e | e | e; exact .inl e; exact .inr (.inl e); exact .inr (.inr (.inr e))
      have HQ7 := Lib.hid (HQ6.out.own hf7 hC hl7)
      have HO7 := Lib.hid (vrow_own HQ6.out hf7 hC HO6.out)
      clear hl7 hf7 hC HQ6 HO6 c1
      have c1 := (sOf.out _ HQ7.out.b).2.1
      have c3 := (sOf.out _ HQ7.out.b).2.2.2.1
      go_wp2_with fail
      refine (KR.out _ HQ7.out.m.rd HQ7.out.m.fr.size (HRDX.out _ HQ7.out.m.fr)).mono ?_
      clear KR
      rintro e w8 ⟨rfl, ⟨TA2, tc2, hr8⟩, hf8⟩
      have HQ8 := Lib.hid (HQ7.out.ref hf8 hr8)
      have HO8 := Lib.hid (vrow_ref HQ7.out hf8 HO7.out)
      clear hr8 hf8 HQ7 HO7 c1 c3
      have HV8 : Hid (0 < m → ∃ gv cur, A6 = some ⟨gv, 0, none⟩ ∧ w.heap.size ≤ gv ∧ Bk w8 gv 40 cur ∧ m * 3 ≤ cur.size) := fun h => vrow_blk HO8.out h
      clear HO8
      go_wp2_with fail
      go_loopw [114] (fun i wr2 => ∃ t : Nat, t ≤ m ∧ i = .int .i64 t ∧ Hid ((∃ cs, QAt w wr2 ob cs g bp bt bv gr TA2 tc2 LP RP) ∧ (0 < m → ∃ gv cur, A6 = some ⟨gv, 0, none⟩ ∧ w.heap.size ≤ gv ∧ Bk wr2 gv 40 cur ∧ m * 3 ≤ cur.size))) (fun i _ => m - (intOf i).toNat)
      case atStart => exact ⟨0, Nat.zero_le _, rfl, ⟨_, HQ8.out⟩, HV8.out⟩
      case round =>
        clear HQ8 HV8
        obtain ⟨t, ht, rfl, HY⟩ := hrel
        obtain ⟨⟨cs2, hqz⟩, hvz⟩ := HY.out
        have HQZ := Lib.hid hqz
        have HVZ := Lib.hid hvz
        clear hqz hvz HY
        by_cases htm : t < m
        · obtain ⟨gv, cur, rfl, hgv, hbv, hsz⟩ := HVZ.out (by omega)
          have b0 : wr.cell? ⟨gv, t * 3, none⟩ = some (cur[t * 3]'(by omega)) := (hbv.cell _).trans (Array.getElem?_eq_getElem (by omega))
          have b1 : wr.cell? ⟨gv, t * 3 + 1, none⟩ = some (cur[t * 3 + 1]'(by omega)) := (hbv.cell _).trans (Array.getElem?_eq_getElem (by omega))
          have b2 : wr.cell? ⟨gv, t * 3 + 2, none⟩ = some (cur[t * 3 + 2]'(by omega)) := (hbv.cell _).trans (Array.getElem?_eq_getElem (by omega))
          have f0 := hbv.free (t * 3)
          have f1 := hbv.free (t * 3 + 1)
          have f2 := hbv.free (t * 3 + 2)
          have HNW : Hid ((∃ cs, QAt w (((wr.setCell ⟨gv, t * 3, none⟩ (.int .i64 0)).setCell ⟨gv, t * 3 + 1, none⟩ (.int .u64 0)).setCell ⟨gv, t * 3 + 2, none⟩ (Value.string { data := #[] })) ob cs g bp bt bv gr TA2 tc2 LP RP) ∧ (0 < m → ∃ gv2 cur, (some ⟨gv, 0, none⟩ : Option Addr) = some ⟨gv2, 0, none⟩ ∧ w.heap.size ≤ gv2 ∧ Bk (((wr.setCell ⟨gv, t * 3, none⟩ (.int .i64 0)).setCell ⟨gv, t * 3 + 1, none⟩ (.int .u64 0)).setCell ⟨gv, t * 3 + 2, none⟩ (Value.string { data := #[] })) gv2 40 cur ∧ m * 3 ≤ cur.size)) := by
            refine ⟨⟨cs2, HQZ.out.side hbv hgv ((((Fr.refl (fun j => j = gv) _).setCell (p := ⟨gv, t * 3, none⟩) (fun _ => rfl) _).setCell (p := ⟨gv, t * 3 + 1, none⟩) (fun _ => rfl) _).setCell (p := ⟨gv, t * 3 + 2, none⟩) (fun _ => rfl) _)⟩, fun _ => ⟨gv, _, rfl, hgv, ((hbv.put _ _).put _ _).put _ _, ?_⟩⟩
            rw [Array.size_setIfInBounds, Array.size_setIfInBounds, Array.size_setIfInBounds]
            exact hsz
          generalize cur[t * 3]'(by omega) = u0 at b0
          generalize cur[t * 3 + 1]'(by omega) = u1 at b1
          generalize cur[t * 3 + 2]'(by omega) = u2 at b2
          have htc : t < m := htm
          have hwt : IntKind.i64.wrap ((t : Int) + 1) = (t : Int) + 1 := IntWalk.i64_in _ (by omega)
          clear hbv hsz hgv HVZ HQZ
          go_wp2_with fail
          go_roundw
          case rel => exact ⟨t + 1, by omega, by go_num, HNW.out⟩
          case measure => simp [intOf]; omega
        clear HVZ
        obtain ⟨s, b, hsb⟩ := tup_form (rval RP)
        have TV := Lib.hid fun W (h : LdS W w.heap.size g bp bt bv LP) => valueS_any W _ g bp bt bv LP h
        have TR := Lib.hid fun W A c (h : RdL W w.heap.size gr A c RP) => rval_any W _ gr c A RP h (by have := JP.out.b2; have := HK200.out; omega)
        rw [JP.out.value, hsb] at TV
        rw [hsb] at TR
        have TL := Lib.hid fun W (h : LdS W w.heap.size g bp bt bv LP) => leadsS_any W _ g bp bt bv LP h
        rw [JP.out.l] at TL
        have TRL := Lib.hid fun W A c (h : RdL W w.heap.size gr A c RP) => h.leads
        have TS := Lib.hid fun W (h : LdS W w.heap.size g bp bt bv LP) => slotS_any W _ g bp bt bv LP h
        rw [JP.out.s] at TS
        have TC := Lib.hid fun W A c (h : RdL W w.heap.size gr A c RP) => show W.cell? ⟨gr, 1, none⟩ = some (.int .i64 (RP.slot : Int)) from h.bk.cell 1
        generalize rleads RP = ld at TL TRL
        generalize RP.slot = sl at TS TC
        clear hsb
        go_wp2_with fail
        refine (TV.out _ HQZ.out.m.ld).mono ?_
        clear TV
        rintro e w8 ⟨rfl, hf8⟩
        have HQ8 := Lib.hid (HQZ.out.nofr hf8)
        clear hf8
        go_wp2_with fail
        refine (TR.out _ _ _ HQ8.out.m.rd).mono ?_
        clear TR
        rintro e w9 ⟨rfl, hf9⟩
        have HQ9 := Lib.hid (HQ8.out.nofr hf9)
        clear hf9
        go_wp2_with fail
        refine wp_region_held_drew (S := fun w' => w'.cell? ⟨gr, 1, none⟩ = some (.int .i64 (sl : Int))) (by kernel_rfl) (TC.out _ _ _ (HQ9.out.nofr (Fr.refl _ _).drew).m.rd) (fun hHeld => ?_)
        refine wpAnyH_take (i := 0) (oi := ⟨some 143, _, _, _, _, _⟩) (v := ?_) rfl (by kernel_rfl) (by kernel_rfl) (by kernel_rfl) (fun _ _ _ h => h) (Or.inl ⟨by rfl, ?_⟩) (by assumption) ?_
        rotate_left 1
        · (intro w hSw; (try dsimp only at hSw); go_simp) <;> (with_reducible rfl)
        try simp only [Act.put, List.setIfInBounds_toArray, List.set_cons_zero, List.set_cons_succ]
        refine wpAnyH_take (i := 1) (oi := ⟨some 144, _, _, _, _, _⟩) (v := ?_) rfl (by kernel_rfl) (by kernel_rfl) (by kernel_rfl) (fun _ _ _ h => h) (Or.inl ⟨by rfl, ?_⟩) (by assumption) ?_
        rotate_left 1
        · (intro w hSw; (try dsimp only at hSw); go_simp) <;> (with_reducible rfl)
        try simp only [Act.put, List.setIfInBounds_toArray, List.set_cons_zero, List.set_cons_succ]
        refine wpAnyH_take (i := 2) (oi := ⟨some 145, _, _, _, _, _⟩) (v := ?_) rfl (by kernel_rfl) (by kernel_rfl) (by kernel_rfl) (fun _ _ _ h => h) (Or.inl ⟨by rfl, ?_⟩) (by assumption) ?_
        rotate_left 1
        · (intro w hSw; (try dsimp only at hSw); go_simp) <;> (with_reducible rfl)
        try simp only [Act.put, List.setIfInBounds_toArray, List.set_cons_zero, List.set_cons_succ]
        refine wpAnyH_take (i := 3) (oi := ⟨some 146, _, _, _, _, _⟩) (v := ?_) rfl (by kernel_rfl) (by kernel_rfl) (by kernel_rfl) (fun _ _ _ h => h) (Or.inl ⟨by rfl, ?_⟩) (by assumption) ?_
        rotate_left 1
        · (intro w hSw; (try dsimp only at hSw); go_simp) <;> (with_reducible rfl)
        try simp only [Act.put, List.setIfInBounds_toArray, List.set_cons_zero, List.set_cons_succ]
        refine wpAnyH_take (i := 4) (oi := ⟨some 147, _, _, _, _, _⟩) (v := ?_) rfl (by kernel_rfl) (by kernel_rfl) (by kernel_rfl) (fun _ _ _ h => h) (Or.inl ⟨by rfl, ?_⟩) (by assumption) ?_
        rotate_left 1
        · (intro w hSw; (try dsimp only at hSw); go_simp) <;> (with_reducible rfl)
        try simp only [Act.put, List.setIfInBounds_toArray, List.set_cons_zero, List.set_cons_succ]
        refine wpAnyH_take (i := 5) (oi := ⟨some 148, _, _, _, _, _⟩) (v := ?_) rfl (by kernel_rfl) (by kernel_rfl) (by kernel_rfl) (fun _ _ _ h => h) (Or.inl ⟨by rfl, ?_⟩) (by assumption) ?_
        rotate_left 1
        · (intro w hSw; (try dsimp only at hSw); go_simp) <;> (with_reducible rfl)
        try simp only [Act.put, List.setIfInBounds_toArray, List.set_cons_zero, List.set_cons_succ]
        refine wpAnyH_take (i := 6) (oi := ⟨some 149, _, _, _, _, _⟩) (v := ?_) rfl (by kernel_rfl) (by kernel_rfl) (by kernel_rfl) (fun _ _ _ h => h) (Or.inl ⟨by rfl, ?_⟩) (by assumption) ?_
        rotate_left 1
        · (intro w hSw; (try dsimp only at hSw); go_simp) <;> (with_reducible rfl)
        try simp only [Act.put, List.setIfInBounds_toArray, List.set_cons_zero, List.set_cons_succ]
        refine wpAnyH_take (i := 7) (oi := ⟨some 150, _, _, _, _, _⟩) (v := ?_) rfl (by kernel_rfl) (by kernel_rfl) (by kernel_rfl) (fun _ _ _ h => h) (Or.inl ⟨by rfl, ?_⟩) (by assumption) ?_
        rotate_left 1
        · (intro w hSw; (try dsimp only at hSw); go_simp) <;> (with_reducible rfl)
        try simp only [Act.put, List.setIfInBounds_toArray, List.set_cons_zero, List.set_cons_succ]
        refine wpAnyH_take (i := 8) (oi := ⟨some 151, _, _, _, _, _⟩) (v := ?_) rfl (by kernel_rfl) (by kernel_rfl) (by kernel_rfl) (fun _ _ _ h => h) (Or.inl ⟨by rfl, ?_⟩) (by assumption) ?_
        rotate_left 1
        · (intro w hSw; (try dsimp only at hSw); go_simp) <;> (with_reducible rfl)
        try simp only [Act.put, List.setIfInBounds_toArray, List.set_cons_zero, List.set_cons_succ]
        refine wpAnyH_take (i := 9) (oi := ⟨some 152, _, _, _, _, _⟩) (v := ?_) rfl (by kernel_rfl) (by kernel_rfl) (by kernel_rfl) (fun _ _ _ h => h) (Or.inl ⟨by rfl, ?_⟩) (by assumption) ?_
        rotate_left 1
        · (intro w hSw; (try dsimp only at hSw); go_simp) <;> (with_reducible rfl)
        try simp only [Act.put, List.setIfInBounds_toArray, List.set_cons_zero, List.set_cons_succ]
        refine wpAnyH_take (i := 11) (oi := ⟨some 154, _, _, _, _, _⟩) (v := ?_) rfl (by kernel_rfl) (by kernel_rfl) (by kernel_rfl) (fun _ _ _ h => h) (Or.inl ⟨by rfl, ?_⟩) (by assumption) ?_
        rotate_left 1
        · (intro w hSw; (try dsimp only at hSw); go_simp) <;> (with_reducible rfl)
        try simp only [Act.put, List.setIfInBounds_toArray, List.set_cons_zero, List.set_cons_succ]
        refine wpAnyH_ready (rs := [10]) (by kernel_rfl) (by simp) ?_
        refine AllReadyH.cons (o := ⟨some 153, _, _, _, _, _⟩) rfl (fun K hK => ?_) AllReadyH.nil
        go_simp
        go_at_call 21
        refine (TL.out _ (HQ9.out.nofr (Fr.refl _ _).drew).m.ld).mono ?_
        rintro e w10 ⟨rfl, hw10⟩
        subst hw10
        clear hHeld
        refine hK.out _ _ ?_ (fun hHeld => ?_)
        · exact TC.out _ _ _ (HQ9.out.nofr (Fr.refl _ _).drew).m.rd
        clear hK K
        try simp only [Act.put, List.setIfInBounds_toArray, List.set_cons_zero, List.set_cons_succ]
        refine wpAnyH_ready (rs := [12]) (by kernel_rfl) (by simp) ?_
        refine AllReadyH.cons (o := ⟨some 155, _, _, _, _, _⟩) rfl (fun K hK => ?_) AllReadyH.nil
        go_simp
        go_at_call 22
        refine (TRL.out _ _ _ (HQ9.out.nofr (Fr.refl _ _).drew).m.rd).mono ?_
        rintro e w11 ⟨rfl, hf11⟩
        have HQ11 := Lib.hid ((HQ9.out.nofr (Fr.refl _ _).drew).nofr hf11)
        clear hf11 hHeld
        refine hK.out _ _ ?_ (fun hHeld => ?_)
        · exact TC.out _ _ _ HQ11.out.m.rd
        clear hK K
        try simp only [Act.put, List.setIfInBounds_toArray, List.set_cons_zero, List.set_cons_succ]
        refine wpAnyH_take (i := 13) (oi := ⟨some 156, _, _, _, _, _⟩) (v := ?_) rfl (by kernel_rfl) (by kernel_rfl) (by kernel_rfl) (fun _ _ _ h => h) (Or.inl ⟨by rfl, ?_⟩) (by assumption) ?_
        rotate_left 1
        · (intro w hSw; (try dsimp only at hSw); go_simp) <;> (with_reducible rfl)
        try simp only [Act.put, List.setIfInBounds_toArray, List.set_cons_zero, List.set_cons_succ]
        refine wpAnyH_take (i := 14) (oi := ⟨some 157, _, _, _, _, _⟩) (v := ?_) rfl (by kernel_rfl) (by kernel_rfl) (by kernel_rfl) (fun _ _ _ h => h) (Or.inl ⟨by rfl, ?_⟩) (by assumption) ?_
        rotate_left 1
        · (intro w hSw; (try dsimp only at hSw); go_simp) <;> (with_reducible rfl)
        try simp only [Act.put, List.setIfInBounds_toArray, List.set_cons_zero, List.set_cons_succ]
        refine wpAnyH_take (i := 15) (oi := ⟨some 158, _, _, _, _, _⟩) (v := ?_) rfl (by kernel_rfl) (by kernel_rfl) (by kernel_rfl) (fun _ _ _ h => h) (Or.inl ⟨by rfl, ?_⟩) (by assumption) ?_
        rotate_left 1
        · (intro w hSw; (try dsimp only at hSw); go_simp) <;> (with_reducible rfl)
        try simp only [Act.put, List.setIfInBounds_toArray, List.set_cons_zero, List.set_cons_succ]
        refine wpAnyH_take (i := 16) (oi := ⟨some 159, _, _, _, _, _⟩) (v := ?_) rfl (by kernel_rfl) (by kernel_rfl) (by kernel_rfl) (fun _ _ _ h => h) (Or.inl ⟨by rfl, ?_⟩) (by assumption) ?_
        rotate_left 1
        · (intro w hSw; (try dsimp only at hSw); go_simp) <;> (with_reducible rfl)
        try simp only [Act.put, List.setIfInBounds_toArray, List.set_cons_zero, List.set_cons_succ]
        refine wpAnyH_take (i := 18) (oi := ⟨some 161, _, _, _, _, _⟩) (v := ?_) rfl (by kernel_rfl) (by kernel_rfl) (by kernel_rfl) (fun _ _ _ h => h) (Or.inl ⟨by rfl, ?_⟩) (by assumption) ?_
        rotate_left 1
        · (intro w hSw; (try dsimp only at hSw); go_simp) <;> (with_reducible rfl)
        try simp only [Act.put, List.setIfInBounds_toArray, List.set_cons_zero, List.set_cons_succ]
        refine wpAnyH_take (i := 19) (oi := ⟨some 162, _, _, _, _, _⟩) (v := ?_) rfl (by kernel_rfl) (by kernel_rfl) (by kernel_rfl) (fun _ _ _ h => h) (Or.inl ⟨by rfl, ?_⟩) (by assumption) ?_
        rotate_left 1
        · (intro w hSw; (try dsimp only at hSw); go_simp) <;> (with_reducible rfl)
        try simp only [Act.put, List.setIfInBounds_toArray, List.set_cons_zero, List.set_cons_succ]
        refine wpAnyH_take (i := 20) (oi := ⟨some 163, _, _, _, _, _⟩) (v := ?_) rfl (by kernel_rfl) (by kernel_rfl) (by kernel_rfl) (fun _ _ _ h => h) (Or.inl ⟨by rfl, ?_⟩) (by assumption) ?_
        rotate_left 1
        · (intro w hSw; (try dsimp only at hSw); go_simp) <;> (with_reducible rfl)
        try simp only [Act.put, List.setIfInBounds_toArray, List.set_cons_zero, List.set_cons_succ]
        refine wpAnyH_take (i := 21) (oi := ⟨some 164, _, _, _, _, _⟩) (v := ?_) rfl (by kernel_rfl) (by kernel_rfl) (by kernel_rfl) (fun _ _ _ h => h) (Or.inl ⟨by rfl, ?_⟩) (by assumption) ?_
        rotate_left 1
        · (intro w hSw; (try dsimp only at hSw); go_simp) <;> (with_reducible rfl)
        try simp only [Act.put, List.setIfInBounds_toArray, List.set_cons_zero, List.set_cons_succ]
        refine wpAnyH_ready (rs := [17]) (by kernel_rfl) (by simp) ?_
        refine AllReadyH.cons (o := ⟨some 160, _, _, _, _, _⟩) rfl (fun K hK => ?_) AllReadyH.nil
        go_simp
        go_at_call 23
        refine (TS.out _ HQ11.out.m.ld).mono ?_
        rintro e w12 ⟨rfl, hw12⟩
        subst hw12
        clear hHeld
        refine hK.out _ _ ?_ (fun hHeld => ?_)
        · exact TC.out _ _ _ HQ11.out.m.rd
        clear hK K
        try simp only [Act.put, List.setIfInBounds_toArray, List.set_cons_zero, List.set_cons_succ]
        refine wpAnyH_take (i := 22) (oi := ⟨some 165, _, _, _, _, _⟩) (v := ?_) rfl (by kernel_rfl) (by kernel_rfl) (by kernel_rfl) (fun _ _ _ h => h) (Or.inl ⟨by rfl, ?_⟩) (by assumption) ?_
        rotate_left 1
        · (intro w hSw; (try dsimp only at hSw); go_simp) <;> (with_reducible rfl)
        try simp only [Act.put, List.setIfInBounds_toArray, List.set_cons_zero, List.set_cons_succ]
        refine wpAnyH_take (i := 23) (oi := ⟨some 166, _, _, _, _, _⟩) (v := ?_) rfl (by kernel_rfl) (by kernel_rfl) (by kernel_rfl) (fun _ _ _ h => h) (Or.inl ⟨by rfl, ?_⟩) (by assumption) ?_
        rotate_left 1
        · (intro w hSw; (try dsimp only at hSw); go_simp) <;> (with_reducible rfl)
        try simp only [Act.put, List.setIfInBounds_toArray, List.set_cons_zero, List.set_cons_succ]
        refine wpAnyH_done (by kernel_rfl) ?_ _
        clear hHeld
        go_wp2_with fail
        go_roundw
        case rel => exact ⟨k + 1, by have := HKX.out; omega, by go_num, _, _, _, _, HQ11.out.m, JP.out⟩
        case measure => have := HKX.out; simp [intOf]; omega
    by_cases hq1 : q = 1
    · subst hq1
      rw [show ((1 : Nat) : Int) = 1 from rfl] at hq
      go_wp2_with fail
      rw [← hw5, ← hob]
      clear hw5 hob d0 d1 d2 d3 d4 c0
      refine wp_region_held_drew (S := fun w' => w'.cell? ⟨ob, 4, none⟩ = some (.string xval)) (by kernel_rfl) ((Bk.fr HQ5.out.b (Fr.refl NoBlk _).drew fun h => h).cell 4) (fun hHeld => ?_)
      refine wpAnyH_take (i := 0) (oi := ⟨some 124, _, _, _, _, _⟩) (v := ?_) rfl (by kernel_rfl) (by kernel_rfl) (by kernel_rfl) (fun _ _ _ h => h) (Or.inl ⟨by rfl, ?_⟩) (by assumption) ?_
      rotate_left 1
      · (intro w hSw; (try dsimp only at hSw); go_simp) <;> (with_reducible rfl)
      try simp only [Act.put, List.setIfInBounds_toArray, List.set_cons_zero, List.set_cons_succ]
      refine wpAnyH_take (i := 1) (oi := ⟨some 125, _, _, _, _, _⟩) (v := ?_) rfl (by kernel_rfl) (by kernel_rfl) (by kernel_rfl) (fun _ _ _ h => h) (Or.inl ⟨by rfl, ?_⟩) (by assumption) ?_
      rotate_left 1
      · (intro w hSw; (try dsimp only at hSw); go_simp) <;> (with_reducible rfl)
      try simp only [Act.put, List.setIfInBounds_toArray, List.set_cons_zero, List.set_cons_succ]
      refine wpAnyH_take (i := 2) (oi := ⟨some 126, _, _, _, _, _⟩) (v := ?_) rfl (by kernel_rfl) (by kernel_rfl) (by kernel_rfl) (fun _ _ _ h => h) (Or.inl ⟨by rfl, ?_⟩) (by assumption) ?_
      rotate_left 1
      · (intro w hSw; (try dsimp only at hSw); go_simp) <;> (with_reducible rfl)
      try simp only [Act.put, List.setIfInBounds_toArray, List.set_cons_zero, List.set_cons_succ]
      refine wpAnyH_take (i := 4) (oi := ⟨some 128, _, _, _, _, _⟩) (v := ?_) rfl (by kernel_rfl) (by kernel_rfl) (by kernel_rfl) (fun _ _ _ h => h) (Or.inl ⟨by rfl, ?_⟩) (by assumption) ?_
      rotate_left 1
      · (intro w hSw; (try dsimp only at hSw); go_simp) <;> (with_reducible rfl)
      try simp only [Act.put, List.setIfInBounds_toArray, List.set_cons_zero, List.set_cons_succ]
      refine wpAnyH_take (i := 5) (oi := ⟨some 129, _, _, _, _, _⟩) (v := ?_) rfl (by kernel_rfl) (by kernel_rfl) (by kernel_rfl) (fun _ _ _ h => h) (Or.inl ⟨by rfl, ?_⟩) (by assumption) ?_
      rotate_left 1
      · (intro w hSw; (try dsimp only at hSw); go_simp) <;> (with_reducible rfl)
      try simp only [Act.put, List.setIfInBounds_toArray, List.set_cons_zero, List.set_cons_succ]
      refine wpAnyH_take (i := 6) (oi := ⟨some 130, _, _, _, _, _⟩) (v := ?_) rfl (by kernel_rfl) (by kernel_rfl) (by kernel_rfl) (fun _ _ _ h => h) (Or.inl ⟨by rfl, ?_⟩) (by assumption) ?_
      rotate_left 1
      · (intro w hSw; (try dsimp only at hSw); go_simp) <;> (with_reducible rfl)
      try simp only [Act.put, List.setIfInBounds_toArray, List.set_cons_zero, List.set_cons_succ]
      refine wpAnyH_ready (rs := [3]) (by kernel_rfl) (by simp) ?_
      refine AllReadyH.cons (o := ⟨some 127, _, _, _, _, _⟩) rfl (fun K hK => ?_) AllReadyH.nil
      go_simp
      go_at_call 15
      refine (KO.out _ (HQ5.out.nofr (Fr.refl _ _).drew).m.ld).mono ?_
      rintro e w6 ⟨rfl, hl6, hf6⟩
      have HQ6 := Lib.hid ((HQ5.out.nofr (Fr.refl _ _).drew).own hf6 (fun _ e => .inr (.inr (.inr e))) hl6)
      clear hl6 hf6 hHeld
      refine hK.out _ _ ?_ (fun hHeld => ?_)
      · exact HQ6.out.b.cell 4
      clear hK K
      try simp only [Act.put, List.setIfInBounds_toArray, List.set_cons_zero, List.set_cons_succ]
      refine wpAnyH_ready (rs := [7]) (by kernel_rfl) (by simp) ?_
      refine AllReadyH.cons (o := ⟨some 131, _, _, _, _, _⟩) rfl (fun K hK => ?_) AllReadyH.nil
      go_simp
      go_at_call 16
      refine (KRO.out _ HQ6.out.m.rd).mono ?_
      rintro e w7 ⟨rfl, hr7, hf7⟩
      have HQ7 := Lib.hid (HQ6.out.ref hf7 hr7)
      clear hr7 hf7 hHeld
      refine hK.out _ _ ?_ (fun hHeld => ?_)
      · exact HQ7.out.b.cell 4
      clear hK K
      try simp only [Act.put, List.setIfInBounds_toArray, List.set_cons_zero, List.set_cons_succ]
      refine wpAnyH_take (i := 8) (oi := ⟨some 132, _, _, _, _, _⟩) (v := ?_) rfl (by kernel_rfl) (by kernel_rfl) (by kernel_rfl) (fun _ _ _ h => h) (Or.inl ⟨by rfl, ?_⟩) (by assumption) ?_
      rotate_left 1
      · (intro w hSw; (try dsimp only at hSw); go_simp) <;> (with_reducible rfl)
      try simp only [Act.put, List.setIfInBounds_toArray, List.set_cons_zero, List.set_cons_succ]
      refine wpAnyH_done (by kernel_rfl) ?_ _
      clear hHeld
      obtain ⟨s, b, hsb⟩ := tup_form (rval RO)
      have TV := Lib.hid fun W (h : LdS W w.heap.size g bp bt bv LO) => valueS_any W _ g bp bt bv LO h
      have TR := Lib.hid fun W A c (h : RdL W w.heap.size gr A c RO) => rval_any W _ gr c A RO h (by have := JO.out.b2; have := HK200.out; omega)
      rw [JO.out.value, hsb] at TV
      rw [hsb] at TR
      have TL := Lib.hid fun W (h : LdS W w.heap.size g bp bt bv LO) => leadsS_any W _ g bp bt bv LO h
      rw [JO.out.l] at TL
      have TRL := Lib.hid fun W A c (h : RdL W w.heap.size gr A c RO) => h.leads
      have TS := Lib.hid fun W (h : LdS W w.heap.size g bp bt bv LO) => slotS_any W _ g bp bt bv LO h
      rw [JO.out.s] at TS
      have TC := Lib.hid fun W A c (h : RdL W w.heap.size gr A c RO) => show W.cell? ⟨gr, 1, none⟩ = some (.int .i64 (RO.slot : Int)) from h.bk.cell 1
      generalize rleads RO = ld at TL TRL
      generalize RO.slot = sl at TS TC
      clear hsb
      go_wp2_with fail
      refine (TV.out _ HQ7.out.m.ld).mono ?_
      clear TV
      rintro e w8 ⟨rfl, hf8⟩
      have HQ8 := Lib.hid (HQ7.out.nofr hf8)
      clear hf8
      go_wp2_with fail
      refine (TR.out _ _ _ HQ8.out.m.rd).mono ?_
      clear TR
      rintro e w9 ⟨rfl, hf9⟩
      have HQ9 := Lib.hid (HQ8.out.nofr hf9)
      clear hf9
      go_wp2_with fail
      refine wp_region_held_drew (S := fun w' => w'.cell? ⟨gr, 1, none⟩ = some (.int .i64 (sl : Int))) (by kernel_rfl) (TC.out _ _ _ (HQ9.out.nofr (Fr.refl _ _).drew).m.rd) (fun hHeld => ?_)
      refine wpAnyH_take (i := 0) (oi := ⟨some 143, _, _, _, _, _⟩) (v := ?_) rfl (by kernel_rfl) (by kernel_rfl) (by kernel_rfl) (fun _ _ _ h => h) (Or.inl ⟨by rfl, ?_⟩) (by assumption) ?_
      rotate_left 1
      · (intro w hSw; (try dsimp only at hSw); go_simp) <;> (with_reducible rfl)
      try simp only [Act.put, List.setIfInBounds_toArray, List.set_cons_zero, List.set_cons_succ]
      refine wpAnyH_take (i := 1) (oi := ⟨some 144, _, _, _, _, _⟩) (v := ?_) rfl (by kernel_rfl) (by kernel_rfl) (by kernel_rfl) (fun _ _ _ h => h) (Or.inl ⟨by rfl, ?_⟩) (by assumption) ?_
      rotate_left 1
      · (intro w hSw; (try dsimp only at hSw); go_simp) <;> (with_reducible rfl)
      try simp only [Act.put, List.setIfInBounds_toArray, List.set_cons_zero, List.set_cons_succ]
      refine wpAnyH_take (i := 2) (oi := ⟨some 145, _, _, _, _, _⟩) (v := ?_) rfl (by kernel_rfl) (by kernel_rfl) (by kernel_rfl) (fun _ _ _ h => h) (Or.inl ⟨by rfl, ?_⟩) (by assumption) ?_
      rotate_left 1
      · (intro w hSw; (try dsimp only at hSw); go_simp) <;> (with_reducible rfl)
      try simp only [Act.put, List.setIfInBounds_toArray, List.set_cons_zero, List.set_cons_succ]
      refine wpAnyH_take (i := 3) (oi := ⟨some 146, _, _, _, _, _⟩) (v := ?_) rfl (by kernel_rfl) (by kernel_rfl) (by kernel_rfl) (fun _ _ _ h => h) (Or.inl ⟨by rfl, ?_⟩) (by assumption) ?_
      rotate_left 1
      · (intro w hSw; (try dsimp only at hSw); go_simp) <;> (with_reducible rfl)
      try simp only [Act.put, List.setIfInBounds_toArray, List.set_cons_zero, List.set_cons_succ]
      refine wpAnyH_take (i := 4) (oi := ⟨some 147, _, _, _, _, _⟩) (v := ?_) rfl (by kernel_rfl) (by kernel_rfl) (by kernel_rfl) (fun _ _ _ h => h) (Or.inl ⟨by rfl, ?_⟩) (by assumption) ?_
      rotate_left 1
      · (intro w hSw; (try dsimp only at hSw); go_simp) <;> (with_reducible rfl)
      try simp only [Act.put, List.setIfInBounds_toArray, List.set_cons_zero, List.set_cons_succ]
      refine wpAnyH_take (i := 5) (oi := ⟨some 148, _, _, _, _, _⟩) (v := ?_) rfl (by kernel_rfl) (by kernel_rfl) (by kernel_rfl) (fun _ _ _ h => h) (Or.inl ⟨by rfl, ?_⟩) (by assumption) ?_
      rotate_left 1
      · (intro w hSw; (try dsimp only at hSw); go_simp) <;> (with_reducible rfl)
      try simp only [Act.put, List.setIfInBounds_toArray, List.set_cons_zero, List.set_cons_succ]
      refine wpAnyH_take (i := 6) (oi := ⟨some 149, _, _, _, _, _⟩) (v := ?_) rfl (by kernel_rfl) (by kernel_rfl) (by kernel_rfl) (fun _ _ _ h => h) (Or.inl ⟨by rfl, ?_⟩) (by assumption) ?_
      rotate_left 1
      · (intro w hSw; (try dsimp only at hSw); go_simp) <;> (with_reducible rfl)
      try simp only [Act.put, List.setIfInBounds_toArray, List.set_cons_zero, List.set_cons_succ]
      refine wpAnyH_take (i := 7) (oi := ⟨some 150, _, _, _, _, _⟩) (v := ?_) rfl (by kernel_rfl) (by kernel_rfl) (by kernel_rfl) (fun _ _ _ h => h) (Or.inl ⟨by rfl, ?_⟩) (by assumption) ?_
      rotate_left 1
      · (intro w hSw; (try dsimp only at hSw); go_simp) <;> (with_reducible rfl)
      try simp only [Act.put, List.setIfInBounds_toArray, List.set_cons_zero, List.set_cons_succ]
      refine wpAnyH_take (i := 8) (oi := ⟨some 151, _, _, _, _, _⟩) (v := ?_) rfl (by kernel_rfl) (by kernel_rfl) (by kernel_rfl) (fun _ _ _ h => h) (Or.inl ⟨by rfl, ?_⟩) (by assumption) ?_
      rotate_left 1
      · (intro w hSw; (try dsimp only at hSw); go_simp) <;> (with_reducible rfl)
      try simp only [Act.put, List.setIfInBounds_toArray, List.set_cons_zero, List.set_cons_succ]
      refine wpAnyH_take (i := 9) (oi := ⟨some 152, _, _, _, _, _⟩) (v := ?_) rfl (by kernel_rfl) (by kernel_rfl) (by kernel_rfl) (fun _ _ _ h => h) (Or.inl ⟨by rfl, ?_⟩) (by assumption) ?_
      rotate_left 1
      · (intro w hSw; (try dsimp only at hSw); go_simp) <;> (with_reducible rfl)
      try simp only [Act.put, List.setIfInBounds_toArray, List.set_cons_zero, List.set_cons_succ]
      refine wpAnyH_take (i := 11) (oi := ⟨some 154, _, _, _, _, _⟩) (v := ?_) rfl (by kernel_rfl) (by kernel_rfl) (by kernel_rfl) (fun _ _ _ h => h) (Or.inl ⟨by rfl, ?_⟩) (by assumption) ?_
      rotate_left 1
      · (intro w hSw; (try dsimp only at hSw); go_simp) <;> (with_reducible rfl)
      try simp only [Act.put, List.setIfInBounds_toArray, List.set_cons_zero, List.set_cons_succ]
      refine wpAnyH_ready (rs := [10]) (by kernel_rfl) (by simp) ?_
      refine AllReadyH.cons (o := ⟨some 153, _, _, _, _, _⟩) rfl (fun K hK => ?_) AllReadyH.nil
      go_simp
      go_at_call 21
      refine (TL.out _ (HQ9.out.nofr (Fr.refl _ _).drew).m.ld).mono ?_
      rintro e w10 ⟨rfl, hw10⟩
      subst hw10
      clear hHeld
      refine hK.out _ _ ?_ (fun hHeld => ?_)
      · exact TC.out _ _ _ (HQ9.out.nofr (Fr.refl _ _).drew).m.rd
      clear hK K
      try simp only [Act.put, List.setIfInBounds_toArray, List.set_cons_zero, List.set_cons_succ]
      refine wpAnyH_ready (rs := [12]) (by kernel_rfl) (by simp) ?_
      refine AllReadyH.cons (o := ⟨some 155, _, _, _, _, _⟩) rfl (fun K hK => ?_) AllReadyH.nil
      go_simp
      go_at_call 22
      refine (TRL.out _ _ _ (HQ9.out.nofr (Fr.refl _ _).drew).m.rd).mono ?_
      rintro e w11 ⟨rfl, hf11⟩
      have HQ11 := Lib.hid ((HQ9.out.nofr (Fr.refl _ _).drew).nofr hf11)
      clear hf11 hHeld
      refine hK.out _ _ ?_ (fun hHeld => ?_)
      · exact TC.out _ _ _ HQ11.out.m.rd
      clear hK K
      try simp only [Act.put, List.setIfInBounds_toArray, List.set_cons_zero, List.set_cons_succ]
      refine wpAnyH_take (i := 13) (oi := ⟨some 156, _, _, _, _, _⟩) (v := ?_) rfl (by kernel_rfl) (by kernel_rfl) (by kernel_rfl) (fun _ _ _ h => h) (Or.inl ⟨by rfl, ?_⟩) (by assumption) ?_
      rotate_left 1
      · (intro w hSw; (try dsimp only at hSw); go_simp) <;> (with_reducible rfl)
      try simp only [Act.put, List.setIfInBounds_toArray, List.set_cons_zero, List.set_cons_succ]
      refine wpAnyH_take (i := 14) (oi := ⟨some 157, _, _, _, _, _⟩) (v := ?_) rfl (by kernel_rfl) (by kernel_rfl) (by kernel_rfl) (fun _ _ _ h => h) (Or.inl ⟨by rfl, ?_⟩) (by assumption) ?_
      rotate_left 1
      · (intro w hSw; (try dsimp only at hSw); go_simp) <;> (with_reducible rfl)
      try simp only [Act.put, List.setIfInBounds_toArray, List.set_cons_zero, List.set_cons_succ]
      refine wpAnyH_take (i := 15) (oi := ⟨some 158, _, _, _, _, _⟩) (v := ?_) rfl (by kernel_rfl) (by kernel_rfl) (by kernel_rfl) (fun _ _ _ h => h) (Or.inl ⟨by rfl, ?_⟩) (by assumption) ?_
      rotate_left 1
      · (intro w hSw; (try dsimp only at hSw); go_simp) <;> (with_reducible rfl)
      try simp only [Act.put, List.setIfInBounds_toArray, List.set_cons_zero, List.set_cons_succ]
      refine wpAnyH_take (i := 16) (oi := ⟨some 159, _, _, _, _, _⟩) (v := ?_) rfl (by kernel_rfl) (by kernel_rfl) (by kernel_rfl) (fun _ _ _ h => h) (Or.inl ⟨by rfl, ?_⟩) (by assumption) ?_
      rotate_left 1
      · (intro w hSw; (try dsimp only at hSw); go_simp) <;> (with_reducible rfl)
      try simp only [Act.put, List.setIfInBounds_toArray, List.set_cons_zero, List.set_cons_succ]
      refine wpAnyH_take (i := 18) (oi := ⟨some 161, _, _, _, _, _⟩) (v := ?_) rfl (by kernel_rfl) (by kernel_rfl) (by kernel_rfl) (fun _ _ _ h => h) (Or.inl ⟨by rfl, ?_⟩) (by assumption) ?_
      rotate_left 1
      · (intro w hSw; (try dsimp only at hSw); go_simp) <;> (with_reducible rfl)
      try simp only [Act.put, List.setIfInBounds_toArray, List.set_cons_zero, List.set_cons_succ]
      refine wpAnyH_take (i := 19) (oi := ⟨some 162, _, _, _, _, _⟩) (v := ?_) rfl (by kernel_rfl) (by kernel_rfl) (by kernel_rfl) (fun _ _ _ h => h) (Or.inl ⟨by rfl, ?_⟩) (by assumption) ?_
      rotate_left 1
      · (intro w hSw; (try dsimp only at hSw); go_simp) <;> (with_reducible rfl)
      try simp only [Act.put, List.setIfInBounds_toArray, List.set_cons_zero, List.set_cons_succ]
      refine wpAnyH_take (i := 20) (oi := ⟨some 163, _, _, _, _, _⟩) (v := ?_) rfl (by kernel_rfl) (by kernel_rfl) (by kernel_rfl) (fun _ _ _ h => h) (Or.inl ⟨by rfl, ?_⟩) (by assumption) ?_
      rotate_left 1
      · (intro w hSw; (try dsimp only at hSw); go_simp) <;> (with_reducible rfl)
      try simp only [Act.put, List.setIfInBounds_toArray, List.set_cons_zero, List.set_cons_succ]
      refine wpAnyH_take (i := 21) (oi := ⟨some 164, _, _, _, _, _⟩) (v := ?_) rfl (by kernel_rfl) (by kernel_rfl) (by kernel_rfl) (fun _ _ _ h => h) (Or.inl ⟨by rfl, ?_⟩) (by assumption) ?_
      rotate_left 1
      · (intro w hSw; (try dsimp only at hSw); go_simp) <;> (with_reducible rfl)
      try simp only [Act.put, List.setIfInBounds_toArray, List.set_cons_zero, List.set_cons_succ]
      refine wpAnyH_ready (rs := [17]) (by kernel_rfl) (by simp) ?_
      refine AllReadyH.cons (o := ⟨some 160, _, _, _, _, _⟩) rfl (fun K hK => ?_) AllReadyH.nil
      go_simp
      go_at_call 23
      refine (TS.out _ HQ11.out.m.ld).mono ?_
      rintro e w12 ⟨rfl, hw12⟩
      subst hw12
      clear hHeld
      refine hK.out _ _ ?_ (fun hHeld => ?_)
      · exact TC.out _ _ _ HQ11.out.m.rd
      clear hK K
      try simp only [Act.put, List.setIfInBounds_toArray, List.set_cons_zero, List.set_cons_succ]
      refine wpAnyH_take (i := 22) (oi := ⟨some 165, _, _, _, _, _⟩) (v := ?_) rfl (by kernel_rfl) (by kernel_rfl) (by kernel_rfl) (fun _ _ _ h => h) (Or.inl ⟨by rfl, ?_⟩) (by assumption) ?_
      rotate_left 1
      · (intro w hSw; (try dsimp only at hSw); go_simp) <;> (with_reducible rfl)
      try simp only [Act.put, List.setIfInBounds_toArray, List.set_cons_zero, List.set_cons_succ]
      refine wpAnyH_take (i := 23) (oi := ⟨some 166, _, _, _, _, _⟩) (v := ?_) rfl (by kernel_rfl) (by kernel_rfl) (by kernel_rfl) (fun _ _ _ h => h) (Or.inl ⟨by rfl, ?_⟩) (by assumption) ?_
      rotate_left 1
      · (intro w hSw; (try dsimp only at hSw); go_simp) <;> (with_reducible rfl)
      try simp only [Act.put, List.setIfInBounds_toArray, List.set_cons_zero, List.set_cons_succ]
      refine wpAnyH_done (by kernel_rfl) ?_ _
      clear hHeld
      go_wp2_with fail
      go_roundw
      case rel => exact ⟨k + 1, by have := HKX.out; omega, by go_num, _, _, _, _, HQ11.out.m, JO.out⟩
      case measure => have := HKX.out; simp [intOf]; omega
    · have e0 : ((q : Int) == 0) = false := beq_eq_false_iff_ne.2 (by omega)
      have e1 : ((q : Int) == 1) = false := beq_eq_false_iff_ne.2 (by omega)
      have e2 : ¬ (q : Int) = 0 := by omega
      have e3 : ¬ (q : Int) = 1 := by omega
      have c1 := (sOf.out _ HQ5.out.b).2.1
      have c2 := (sOf.out _ HQ5.out.b).2.2.1
      rw [hw5, hob] at c1 c2
      clear hq0 hq1
      go_wp2_with fail
      rw [← hw5, ← hob]
      clear hw5 hob d0 d1 d2 d3 d4 c0 c1 c2
      refine (KT.out _ HQ5.out.m.ld).mono ?_
      clear KT
      rintro e w6 ⟨rfl, hl6, hf6⟩
      have HQ6 := Lib.hid (HQ5.out.own hf6 (fun j e => by rcases e with e | e | e; exact .inl e; exact .inr (.inr (.inl e)); exact .inr (.inr (.inr e))) hl6)
      clear hl6 hf6 HQ5
      have c1 := (sOf.out _ HQ6.out.b).2.1
      have c2 := (sOf.out _ HQ6.out.b).2.2.1
      go_wp2_with fail
      refine (KRT.out _ HQ6.out.m.rd).mono ?_
      clear KRT
      rintro e w7 ⟨rfl, hr7, hf7⟩
      have HQ7 := Lib.hid (HQ6.out.ref hf7 hr7)
      clear hr7 hf7 HQ6 c1 c2
      obtain ⟨s, b, hsb⟩ := tup_form (rval RT)
      have TV := Lib.hid fun W (h : LdS W w.heap.size g bp bt bv LT) => valueS_any W _ g bp bt bv LT h
      have TR := Lib.hid fun W A c (h : RdL W w.heap.size gr A c RT) => rval_any W _ gr c A RT h (by have := JT.out.b2; have := HK200.out; omega)
      rw [JT.out.value, hsb] at TV
      rw [hsb] at TR
      have TL := Lib.hid fun W (h : LdS W w.heap.size g bp bt bv LT) => leadsS_any W _ g bp bt bv LT h
      rw [JT.out.l] at TL
      have TRL := Lib.hid fun W A c (h : RdL W w.heap.size gr A c RT) => h.leads
      have TS := Lib.hid fun W (h : LdS W w.heap.size g bp bt bv LT) => slotS_any W _ g bp bt bv LT h
      rw [JT.out.s] at TS
      have TC := Lib.hid fun W A c (h : RdL W w.heap.size gr A c RT) => show W.cell? ⟨gr, 1, none⟩ = some (.int .i64 (RT.slot : Int)) from h.bk.cell 1
      generalize rleads RT = ld at TL TRL
      generalize RT.slot = sl at TS TC
      clear hsb
      go_wp2_with fail
      refine (TV.out _ HQ7.out.m.ld).mono ?_
      clear TV
      rintro e w8 ⟨rfl, hf8⟩
      have HQ8 := Lib.hid (HQ7.out.nofr hf8)
      clear hf8
      go_wp2_with fail
      refine (TR.out _ _ _ HQ8.out.m.rd).mono ?_
      clear TR
      rintro e w9 ⟨rfl, hf9⟩
      have HQ9 := Lib.hid (HQ8.out.nofr hf9)
      clear hf9
      go_wp2_with fail
      refine wp_region_held_drew (S := fun w' => w'.cell? ⟨gr, 1, none⟩ = some (.int .i64 (sl : Int))) (by kernel_rfl) (TC.out _ _ _ (HQ9.out.nofr (Fr.refl _ _).drew).m.rd) (fun hHeld => ?_)
      refine wpAnyH_take (i := 0) (oi := ⟨some 143, _, _, _, _, _⟩) (v := ?_) rfl (by kernel_rfl) (by kernel_rfl) (by kernel_rfl) (fun _ _ _ h => h) (Or.inl ⟨by rfl, ?_⟩) (by assumption) ?_
      rotate_left 1
      · (intro w hSw; (try dsimp only at hSw); go_simp) <;> (with_reducible rfl)
      try simp only [Act.put, List.setIfInBounds_toArray, List.set_cons_zero, List.set_cons_succ]
      refine wpAnyH_take (i := 1) (oi := ⟨some 144, _, _, _, _, _⟩) (v := ?_) rfl (by kernel_rfl) (by kernel_rfl) (by kernel_rfl) (fun _ _ _ h => h) (Or.inl ⟨by rfl, ?_⟩) (by assumption) ?_
      rotate_left 1
      · (intro w hSw; (try dsimp only at hSw); go_simp) <;> (with_reducible rfl)
      try simp only [Act.put, List.setIfInBounds_toArray, List.set_cons_zero, List.set_cons_succ]
      refine wpAnyH_take (i := 2) (oi := ⟨some 145, _, _, _, _, _⟩) (v := ?_) rfl (by kernel_rfl) (by kernel_rfl) (by kernel_rfl) (fun _ _ _ h => h) (Or.inl ⟨by rfl, ?_⟩) (by assumption) ?_
      rotate_left 1
      · (intro w hSw; (try dsimp only at hSw); go_simp) <;> (with_reducible rfl)
      try simp only [Act.put, List.setIfInBounds_toArray, List.set_cons_zero, List.set_cons_succ]
      refine wpAnyH_take (i := 3) (oi := ⟨some 146, _, _, _, _, _⟩) (v := ?_) rfl (by kernel_rfl) (by kernel_rfl) (by kernel_rfl) (fun _ _ _ h => h) (Or.inl ⟨by rfl, ?_⟩) (by assumption) ?_
      rotate_left 1
      · (intro w hSw; (try dsimp only at hSw); go_simp) <;> (with_reducible rfl)
      try simp only [Act.put, List.setIfInBounds_toArray, List.set_cons_zero, List.set_cons_succ]
      refine wpAnyH_take (i := 4) (oi := ⟨some 147, _, _, _, _, _⟩) (v := ?_) rfl (by kernel_rfl) (by kernel_rfl) (by kernel_rfl) (fun _ _ _ h => h) (Or.inl ⟨by rfl, ?_⟩) (by assumption) ?_
      rotate_left 1
      · (intro w hSw; (try dsimp only at hSw); go_simp) <;> (with_reducible rfl)
      try simp only [Act.put, List.setIfInBounds_toArray, List.set_cons_zero, List.set_cons_succ]
      refine wpAnyH_take (i := 5) (oi := ⟨some 148, _, _, _, _, _⟩) (v := ?_) rfl (by kernel_rfl) (by kernel_rfl) (by kernel_rfl) (fun _ _ _ h => h) (Or.inl ⟨by rfl, ?_⟩) (by assumption) ?_
      rotate_left 1
      · (intro w hSw; (try dsimp only at hSw); go_simp) <;> (with_reducible rfl)
      try simp only [Act.put, List.setIfInBounds_toArray, List.set_cons_zero, List.set_cons_succ]
      refine wpAnyH_take (i := 6) (oi := ⟨some 149, _, _, _, _, _⟩) (v := ?_) rfl (by kernel_rfl) (by kernel_rfl) (by kernel_rfl) (fun _ _ _ h => h) (Or.inl ⟨by rfl, ?_⟩) (by assumption) ?_
      rotate_left 1
      · (intro w hSw; (try dsimp only at hSw); go_simp) <;> (with_reducible rfl)
      try simp only [Act.put, List.setIfInBounds_toArray, List.set_cons_zero, List.set_cons_succ]
      refine wpAnyH_take (i := 7) (oi := ⟨some 150, _, _, _, _, _⟩) (v := ?_) rfl (by kernel_rfl) (by kernel_rfl) (by kernel_rfl) (fun _ _ _ h => h) (Or.inl ⟨by rfl, ?_⟩) (by assumption) ?_
      rotate_left 1
      · (intro w hSw; (try dsimp only at hSw); go_simp) <;> (with_reducible rfl)
      try simp only [Act.put, List.setIfInBounds_toArray, List.set_cons_zero, List.set_cons_succ]
      refine wpAnyH_take (i := 8) (oi := ⟨some 151, _, _, _, _, _⟩) (v := ?_) rfl (by kernel_rfl) (by kernel_rfl) (by kernel_rfl) (fun _ _ _ h => h) (Or.inl ⟨by rfl, ?_⟩) (by assumption) ?_
      rotate_left 1
      · (intro w hSw; (try dsimp only at hSw); go_simp) <;> (with_reducible rfl)
      try simp only [Act.put, List.setIfInBounds_toArray, List.set_cons_zero, List.set_cons_succ]
      refine wpAnyH_take (i := 9) (oi := ⟨some 152, _, _, _, _, _⟩) (v := ?_) rfl (by kernel_rfl) (by kernel_rfl) (by kernel_rfl) (fun _ _ _ h => h) (Or.inl ⟨by rfl, ?_⟩) (by assumption) ?_
      rotate_left 1
      · (intro w hSw; (try dsimp only at hSw); go_simp) <;> (with_reducible rfl)
      try simp only [Act.put, List.setIfInBounds_toArray, List.set_cons_zero, List.set_cons_succ]
      refine wpAnyH_take (i := 11) (oi := ⟨some 154, _, _, _, _, _⟩) (v := ?_) rfl (by kernel_rfl) (by kernel_rfl) (by kernel_rfl) (fun _ _ _ h => h) (Or.inl ⟨by rfl, ?_⟩) (by assumption) ?_
      rotate_left 1
      · (intro w hSw; (try dsimp only at hSw); go_simp) <;> (with_reducible rfl)
      try simp only [Act.put, List.setIfInBounds_toArray, List.set_cons_zero, List.set_cons_succ]
      refine wpAnyH_ready (rs := [10]) (by kernel_rfl) (by simp) ?_
      refine AllReadyH.cons (o := ⟨some 153, _, _, _, _, _⟩) rfl (fun K hK => ?_) AllReadyH.nil
      go_simp
      go_at_call 21
      refine (TL.out _ (HQ9.out.nofr (Fr.refl _ _).drew).m.ld).mono ?_
      rintro e w10 ⟨rfl, hw10⟩
      subst hw10
      clear hHeld
      refine hK.out _ _ ?_ (fun hHeld => ?_)
      · exact TC.out _ _ _ (HQ9.out.nofr (Fr.refl _ _).drew).m.rd
      clear hK K
      try simp only [Act.put, List.setIfInBounds_toArray, List.set_cons_zero, List.set_cons_succ]
      refine wpAnyH_ready (rs := [12]) (by kernel_rfl) (by simp) ?_
      refine AllReadyH.cons (o := ⟨some 155, _, _, _, _, _⟩) rfl (fun K hK => ?_) AllReadyH.nil
      go_simp
      go_at_call 22
      refine (TRL.out _ _ _ (HQ9.out.nofr (Fr.refl _ _).drew).m.rd).mono ?_
      rintro e w11 ⟨rfl, hf11⟩
      have HQ11 := Lib.hid ((HQ9.out.nofr (Fr.refl _ _).drew).nofr hf11)
      clear hf11 hHeld
      refine hK.out _ _ ?_ (fun hHeld => ?_)
      · exact TC.out _ _ _ HQ11.out.m.rd
      clear hK K
      try simp only [Act.put, List.setIfInBounds_toArray, List.set_cons_zero, List.set_cons_succ]
      refine wpAnyH_take (i := 13) (oi := ⟨some 156, _, _, _, _, _⟩) (v := ?_) rfl (by kernel_rfl) (by kernel_rfl) (by kernel_rfl) (fun _ _ _ h => h) (Or.inl ⟨by rfl, ?_⟩) (by assumption) ?_
      rotate_left 1
      · (intro w hSw; (try dsimp only at hSw); go_simp) <;> (with_reducible rfl)
      try simp only [Act.put, List.setIfInBounds_toArray, List.set_cons_zero, List.set_cons_succ]
      refine wpAnyH_take (i := 14) (oi := ⟨some 157, _, _, _, _, _⟩) (v := ?_) rfl (by kernel_rfl) (by kernel_rfl) (by kernel_rfl) (fun _ _ _ h => h) (Or.inl ⟨by rfl, ?_⟩) (by assumption) ?_
      rotate_left 1
      · (intro w hSw; (try dsimp only at hSw); go_simp) <;> (with_reducible rfl)
      try simp only [Act.put, List.setIfInBounds_toArray, List.set_cons_zero, List.set_cons_succ]
      refine wpAnyH_take (i := 15) (oi := ⟨some 158, _, _, _, _, _⟩) (v := ?_) rfl (by kernel_rfl) (by kernel_rfl) (by kernel_rfl) (fun _ _ _ h => h) (Or.inl ⟨by rfl, ?_⟩) (by assumption) ?_
      rotate_left 1
      · (intro w hSw; (try dsimp only at hSw); go_simp) <;> (with_reducible rfl)
      try simp only [Act.put, List.setIfInBounds_toArray, List.set_cons_zero, List.set_cons_succ]
      refine wpAnyH_take (i := 16) (oi := ⟨some 159, _, _, _, _, _⟩) (v := ?_) rfl (by kernel_rfl) (by kernel_rfl) (by kernel_rfl) (fun _ _ _ h => h) (Or.inl ⟨by rfl, ?_⟩) (by assumption) ?_
      rotate_left 1
      · (intro w hSw; (try dsimp only at hSw); go_simp) <;> (with_reducible rfl)
      try simp only [Act.put, List.setIfInBounds_toArray, List.set_cons_zero, List.set_cons_succ]
      refine wpAnyH_take (i := 18) (oi := ⟨some 161, _, _, _, _, _⟩) (v := ?_) rfl (by kernel_rfl) (by kernel_rfl) (by kernel_rfl) (fun _ _ _ h => h) (Or.inl ⟨by rfl, ?_⟩) (by assumption) ?_
      rotate_left 1
      · (intro w hSw; (try dsimp only at hSw); go_simp) <;> (with_reducible rfl)
      try simp only [Act.put, List.setIfInBounds_toArray, List.set_cons_zero, List.set_cons_succ]
      refine wpAnyH_take (i := 19) (oi := ⟨some 162, _, _, _, _, _⟩) (v := ?_) rfl (by kernel_rfl) (by kernel_rfl) (by kernel_rfl) (fun _ _ _ h => h) (Or.inl ⟨by rfl, ?_⟩) (by assumption) ?_
      rotate_left 1
      · (intro w hSw; (try dsimp only at hSw); go_simp) <;> (with_reducible rfl)
      try simp only [Act.put, List.setIfInBounds_toArray, List.set_cons_zero, List.set_cons_succ]
      refine wpAnyH_take (i := 20) (oi := ⟨some 163, _, _, _, _, _⟩) (v := ?_) rfl (by kernel_rfl) (by kernel_rfl) (by kernel_rfl) (fun _ _ _ h => h) (Or.inl ⟨by rfl, ?_⟩) (by assumption) ?_
      rotate_left 1
      · (intro w hSw; (try dsimp only at hSw); go_simp) <;> (with_reducible rfl)
      try simp only [Act.put, List.setIfInBounds_toArray, List.set_cons_zero, List.set_cons_succ]
      refine wpAnyH_take (i := 21) (oi := ⟨some 164, _, _, _, _, _⟩) (v := ?_) rfl (by kernel_rfl) (by kernel_rfl) (by kernel_rfl) (fun _ _ _ h => h) (Or.inl ⟨by rfl, ?_⟩) (by assumption) ?_
      rotate_left 1
      · (intro w hSw; (try dsimp only at hSw); go_simp) <;> (with_reducible rfl)
      try simp only [Act.put, List.setIfInBounds_toArray, List.set_cons_zero, List.set_cons_succ]
      refine wpAnyH_ready (rs := [17]) (by kernel_rfl) (by simp) ?_
      refine AllReadyH.cons (o := ⟨some 160, _, _, _, _, _⟩) rfl (fun K hK => ?_) AllReadyH.nil
      go_simp
      go_at_call 23
      refine (TS.out _ HQ11.out.m.ld).mono ?_
      rintro e w12 ⟨rfl, hw12⟩
      subst hw12
      clear hHeld
      refine hK.out _ _ ?_ (fun hHeld => ?_)
      · exact TC.out _ _ _ HQ11.out.m.rd
      clear hK K
      try simp only [Act.put, List.setIfInBounds_toArray, List.set_cons_zero, List.set_cons_succ]
      refine wpAnyH_take (i := 22) (oi := ⟨some 165, _, _, _, _, _⟩) (v := ?_) rfl (by kernel_rfl) (by kernel_rfl) (by kernel_rfl) (fun _ _ _ h => h) (Or.inl ⟨by rfl, ?_⟩) (by assumption) ?_
      rotate_left 1
      · (intro w hSw; (try dsimp only at hSw); go_simp) <;> (with_reducible rfl)
      try simp only [Act.put, List.setIfInBounds_toArray, List.set_cons_zero, List.set_cons_succ]
      refine wpAnyH_take (i := 23) (oi := ⟨some 166, _, _, _, _, _⟩) (v := ?_) rfl (by kernel_rfl) (by kernel_rfl) (by kernel_rfl) (fun _ _ _ h => h) (Or.inl ⟨by rfl, ?_⟩) (by assumption) ?_
      rotate_left 1
      · (intro w hSw; (try dsimp only at hSw); go_simp) <;> (with_reducible rfl)
      try simp only [Act.put, List.setIfInBounds_toArray, List.set_cons_zero, List.set_cons_succ]
      refine wpAnyH_done (by kernel_rfl) ?_ _
      clear hHeld
      go_wp2_with fail
      go_roundw
      case rel => exact ⟨k + 1, by have := HKX.out; omega, by go_num, _, _, _, _, HQ11.out.m, JT.out⟩
      case measure => have := HKX.out; simp [intOf]; omega

theorem paramsOk : ∀ t ∈ Try.f3.params.toList, Try.prog.readableRec t = true ∧ t < Try.prog.types.size := fun t ht => by
  have h := List.all_eq_true.1 (show (Try.f3.params.toList.all fun t => Try.prog.readableRec t && decide (t < Try.prog.types.size)) = true by kernel_rfl) t ht
  simpa using h

set_option maxRecDepth 100000 in
theorem lifted (os : Os) (started : os.Started) (H : Type) (enc : TypeId × Value → H) :
    ReturnsInHanded {} Try.checked os 3 .any (Rows.leadPlaysSpec.pre6 enc Try.prog Try.f3 Rows.leadPlaysRow.domain false) (Rows.leadPlaysSpec.post enc Try.prog Try.f3 false true false false) := by
  refine returnsInHanded_of_change (C := Try.checked) own started (by kernel_rfl) Try.func3
    (ChangeSpec.witness6 (enc := enc) (C := Try.checked) false ⟨#[], #[.int .i64 0, .int .i64 0, .slice none 0 0], []⟩ 8 (by kernel_rfl) (by kernel_rfl) (by kernel_rfl) (by kernel_rfl)) ?_
  intro W base args ds gs before hval0 hW _ _
  have hval : ∀ (j : Nat) t v, Try.f3.params[j]? = some t → args[j]? = some v → Value.okWide Try.prog W .any base t v := hval0
  have hW' := hW
  obtain ⟨p, q, hA0, hV, rfl, _, _⟩ := hW
  have hA : DataW.TrodAll enc Try.prog W 0 (fun _ => true) true Try.f3.params.toList args.toList ds p := hA0
  rw [Try.params3] at hA hval
  obtain ⟨v0, vs0, d0, ds0, p0, q0, hargs, rfl, rfl, h0, r0⟩ := trodAll_cons hA
  obtain ⟨v1, vs1, d1, ds1, p1, q1, rfl, rfl, rfl, h1, r1⟩ := trodAll_cons r0
  obtain ⟨v2, vs2, d2, ds2, p2, q2, rfl, rfl, rfl, h2, r2⟩ := trodAll_cons r1
  obtain ⟨rfl, rfl, rfl⟩ := trodAll_nil r2
  obtain rfl : args = #[v0, v1, v2] := by cases args; simp_all
  obtain ⟨rfl, rfl⟩ := trodVars_none hV
  obtain ⟨z0, rfl, rfl, rfl, w0⟩ := open_int Try.underlying3 (hval 0 _ v0 rfl rfl) h0
  obtain ⟨z1, rfl, rfl, rfl, w1⟩ := open_int Try.underlying3 (hval 1 _ v1 rfl rfl) h1
  obtain ⟨A2, c2, xs, rfl, hrd, hin, hlc, hcm⟩ := open_ldos (hval 2 _ v2 rfl rfl) h2
  have walk := walk W z0 z1 A2 c2 xs hrd hin (Nat.le_trans hlc hcm)
  clear hA0 hval0
  refine walk.mono fun e W' ⟨he, hf⟩ => ?_
  subst he
  exact ⟨_, rfl, law_post laidOut paramsOk rfl rfl Try.underlying4 hW' rfl rfl rfl hf⟩

theorem said : Rows.LeadPlaysSaid :=
  OpenClaim.holds_of_wide 3 Try.f3 rfl rfl rfl rfl rfl rfl rfl ⟨rfl, rfl, rfl, rfl, rfl⟩ rfl rfl rfl rfl rfl (by kernel_rfl) Try.func3 (by kernel_rfl)
    (of_decide_eq_true (by kernel_rfl)) (by unfold Func.isWrapper; first | (rw [if_pos (by decide +kernel)]; kernel_rfl) | (rw [if_neg (by decide +kernel)]; exact ⟨rfl, rfl⟩))
    (fun os started H enc _ => lifted os started H enc)
end Go.Proofs.Ytimfinpifngdiaa.leadPlays
