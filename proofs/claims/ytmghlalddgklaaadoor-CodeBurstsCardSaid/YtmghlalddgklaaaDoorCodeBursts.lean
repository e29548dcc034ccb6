/- CodeBursts is true: a frame that is cut is short, a burst of turned bits in a frame's body is seen. No condition but what the card ties. -/
import Derived.Test.YtmghlalddgklaaaDoorOpen
import Derived.Test.YtmghlalddgklaaaDoorNum2
import Derived.Test.YtmghlalddgklaaaDoorFrame3
namespace Go.Proofs.YtmghlalddgklaaaDoor.codeBursts
open Go.ChangeShapes Go.WideShapes Go.ChangeAt Go.RowKit

/-- the state of the turning: what the body has become behind i looks. -/
structure Turned (l : List UInt8) (fr mk i : Nat) (m : List UInt8) (t : Bool) : Prop where
  len : m.length = l.length
  bits : ∀ j, j < 8 * l.length → bit m j = (bit l j ^^ (decide (fr ≤ j) && decide (j < fr + i) && mk.testBit (j - fr)))
  any : t = true ↔ ∃ k, k < i ∧ mk.testBit k = true

theorem Turned.start (l : List UInt8) (fr mk : Nat) : Turned l fr mk 0 l false where
  len := rfl
  bits j _ := by
    have : (decide (fr ≤ j) && decide (j < fr + 0)) = false := by
      rw [Bool.and_eq_false_iff, decide_eq_false_iff_not, decide_eq_false_iff_not]; omega
    rw [this]; simp
  any := by simp
theorem Turned.skip {l m : List UInt8} {fr mk i : Nat} {t : Bool} (h : Turned l fr mk i m t) (hb : mk.testBit i = false) : Turned l fr mk (i + 1) m t where
  len := h.len
  bits j hj := by
    rw [h.bits j hj]
    by_cases e : j = fr + i
    · subst e; simp [hb]
    · have : decide (j < fr + (i + 1)) = decide (j < fr + i) := by apply decide_eq_decide.2; omega
      rw [this]
  any := by
    rw [h.any]
    constructor
    · rintro ⟨k, hk, hp⟩; exact ⟨k, by omega, hp⟩
    · rintro ⟨k, hk, hp⟩
      refine ⟨k, ?_, hp⟩
      rcases Nat.lt_or_ge k i with h1 | h1
      · exact h1
      · rw [show k = i by omega, hb] at hp; cases hp
theorem Turned.turn {l m : List UInt8} {fr mk i : Nat} {t : Bool} (h : Turned l fr mk i m t) (hb : mk.testBit i = true) (hi : fr + i < 8 * l.length) : Turned l fr mk (i + 1) (turn m (fr + i)) true where
  len := by rw [turn_len, h.len]
  bits j hj := by
    rw [turn_bit _ _ _ (by rw [h.len]; exact hi), h.bits j hj]
    by_cases e : j = fr + i
    · subst e; simp [hb]
    · have : decide (j < fr + (i + 1)) = decide (j < fr + i) := by apply decide_eq_decide.2; omega
      rw [this]; simp [e]
  any := by
    simp only [true_iff]
    exact ⟨i, by omega, hb⟩
/-- what is taken off the frame whose body was turned. -/
theorem Turned.seen {l m : List UInt8} {fr mk i : Nat} {t : Bool} (h : Turned l fr mk i m t) (hi : i ≤ 32) (hf : fr + i ≤ 8 * l.length) (hl : l.length ≤ 4096) :
    unfr (head l.length ++ (sum4 (Crc.crc (head l.length ++ l)) ++ m)) = if t then ([], 0, 33) else (l, 6 + l.length, 0) := by
  have hu := unfr_any l.length (sum4 (Crc.crc (head l.length ++ l))) m [] hl rfl h.len
  rw [List.append_nil] at hu
  rw [hu]
  cases t with
  | true =>
    rw [if_neg]
    · rfl
    intro e
    exact crc_burst (head l.length) l m h.len fr i (fun k => mk.testBit k) hi hf h.bits (h.any.1 rfl) (sum4_inj _ _ e)
  | false =>
    have hm : m = l := by
      have hn : ∀ k, k < i → mk.testBit k = false := fun k hk => by
        cases hq : mk.testBit k with
        | false => rfl
        | true => exact absurd (h.any.2 ⟨k, hk, hq⟩) (by simp)
      have hb : ∀ j, j < 8 * l.length → bit m j = bit l j := fun j hj => by
        rw [h.bits j hj]
        by_cases h1 : fr ≤ j
        · by_cases h2 : j < fr + i
          · rw [hn (j - fr) (by omega)]; simp
          · simp [h2]
        · simp [h1]
      apply List.ext_getElem?
      intro a
      by_cases ha : a < l.length
      · have : m.getD a 0 = l.getD a 0 := by
          apply UInt8.eq_of_toBitVec_eq
          apply BitVec.eq_of_getLsbD_eq
          intro b hb8
          have := hb (8 * a + b) (by omega)
          unfold bit at this
          rwa [show (8 * a + b) / 8 = a by omega, show (8 * a + b) % 8 = b by omega] at this
        rw [List.getD_eq_getElem?_getD, List.getD_eq_getElem?_getD, List.getElem?_eq_getElem ha, List.getElem?_eq_getElem (by rw [h.len]; exact ha)] at this
        rw [List.getElem?_eq_getElem ha, List.getElem?_eq_getElem (by rw [h.len]; exact ha)]
        exact congrArg some this
      · rw [List.getElem?_eq_none (by rw [h.len]; omega), List.getElem?_eq_none (by omega)]
    rw [hm, if_pos rfl]
    rfl

set_option maxRecDepth 100000 in
set_option maxHeartbeats 2000000 in
theorem walk (w : World) (ht : Tab w) (A : Option Addr) (c : Nat) (l : List UInt8) (k : Int) (mk : Nat) (hmk : mk < 4294967296) (hr : Rd w A (cb l)) (hA : A = none → c = 0) (hm : l.length ≤ maxLen) :
    Calls Tryd.prog 8 #[.slice A l.length c, .int .i64 k, .int .u32 mk] w fun e w' => e = .returned (.bool true) ∧ Fr NoBlk w w' := by
  have HT := Lib.hid ht
  have HR := Lib.hid hr
  have HA := Lib.hid hA
  obtain ⟨q, hq, eq⟩ := i64_low k 16 (by omega)
  rw [show ((2 ^ 16 - 1 : Nat) : Int) = 65535 from rfl] at eq
  obtain ⟨q2, hq2, eq2⟩ := i64_low k 20 (by omega)
  rw [show ((2 ^ 20 - 1 : Nat) : Int) = 1048575 from rfl] at eq2
  clear ht hr hA
  unfold maxLen at hm
  obtain ⟨i0, hi, hz0, hz1, hz2⟩ := info_parts byteInfo
  by_cases hbig : 4096 < l.length
  · go_enter Tryd.func8, Tryd.ntmps8
    go_wp2_with fail
    refine (speaks_any w HT.out).mono ?_
    rintro e w1 ⟨rfl, hf⟩
    have HF := Lib.hid hf
    clear hf
    go_wp2_with fail
    go_ret
    exact ⟨rfl, HF.out⟩
  · go_enter Tryd.func8, Tryd.ntmps8
    go_wp2_with fail
    refine (speaks_any w HT.out).mono ?_
    rintro e w1 ⟨rfl, hf⟩
    have HF := Lib.hid hf
    have HK := Lib.hid (frame_any w1 (HT.out.fr hf (fun h => h)) A l.length c l rfl (HR.out.nofr hf) HA.out (by omega))
    clear hf
    go_wp2_with fail
    refine HK.out.mono ?_
    clear HK
    rintro e w2 ⟨v2, rfl, hn2⟩
    obtain ⟨F, hF⟩ : ∃ F, F = frameOf l := ⟨_, rfl⟩
    rw [← hF] at hn2
    have hFl : F.length = 6 + l.length := by rw [hF, frameOf_len]
    obtain ⟨A2, c2, rfl, hc2, hA2⟩ := own_form hn2.own
    have HN2 := Lib.hid hn2
    have HA2 := Lib.hid hA2
    have HF2 := Lib.hid (HF.out.trans hn2.fr)
    have HFF := Lib.hid hF
    clear hn2 hA2 hF
    have hFI : (F.length : Int) = (l.length : Int) + 6 := by omega
    obtain ⟨t, et, ht⟩ : ∃ t : Nat, (q : Int) % (F.length : Int) = (t : Int) ∧ t < F.length := ⟨q % F.length, by rw [Int.natCast_emod], Nat.mod_lt _ (by omega)⟩
    have hcut : unfr (F.take t) = ([], 0, 30) := by rw [HFF.out]; exact unfr_cut l (by omega) t (by omega)
    have hk := unframe_any w2 (HT.out.fr HF2.out (fun h => h)) A2 t c2 (F.take t) (by rw [List.length_take]; omega) (by rw [cb_take]; exact (Rd.of_own HN2.out.own).take t) HA2.out (by rw [List.length_take]; omega) (by omega)
    rw [hcut] at hk
    have HK := Lib.hid hk
    clear hk hcut
    have f1 : ((F.length : Int) != (l.length : Int) + 6) = false := by simp [hFI]
    have f2 : (0 : Int) ≤ (t : Int) := by omega
    have f3 : (t : Int) ≤ (c2 : Int) := by omega
    have f4 : ((F.length : Int) == 0) = false := by rw [beq_eq_false_iff_ne]; omega
    have f5 : (0 : Int) < (F.length : Int) := by omega
    have HFL := Lib.hid hFl
    clear hFI hFl
    go_wp2_with fail
    refine HK.out.mono ?_
    clear HK
    rintro e w3 hp3
    unfold UnPost at hp3
    dsimp only at hp3
    obtain ⟨v3, rfl, hn3⟩ := hp3
    obtain ⟨A3, c3, rfl, _, _⟩ := own_form hn3.own
    have HF3 := Lib.hid (HF2.out.trans hn3.fr)
    have HRF := Lib.hid ((Rd.of_own HN2.out.own).nofr hn3.fr)
    clear hn3
    clear et ht f2 f3
    by_cases h0 : l.length = 0
    · go_wp2_with fail
      go_ret
      exact ⟨rfl, HF3.out⟩
    have hpos : 0 < l.length := by omega
    obtain ⟨fr, efr, hfr⟩ : ∃ fr : Nat, (q2 : Int) % (8 * (l.length : Int)) = (fr : Int) ∧ fr < 8 * l.length := ⟨q2 % (8 * l.length), by rw [Int.natCast_emod]; congr 1, Nat.mod_lt _ (by omega)⟩
    have f6 : ((8 * (l.length : Int)) == 0) = false := by rw [beq_eq_false_iff_ne]; omega
    have f7 : ((l.length : Int) == 0) = false := by rw [beq_eq_false_iff_ne]; omega
    go_wp2_with (at_builtin; refine wpList_app rfl _ _ 26 rfl w3.heap.size 5 i0 (.int .u8 0) 1 Tryd.underlying26 hi hz0 hz1 hz2 rfl _ 0 [] rfl (World.ownsRow_made w3 #[] 0 (Nat.le_refl _) (by decide) rfl) A2 c2 F.length (cb F) rfl (cb_length F) ?c1 (cb_one _) ?c2 ?c3 ?c4 ?c5 ?_)
    case c1 => exact HRF.out.alloc _
    case c2 => exact HA2.out
    case c3 => have := HFL.out; unfold maxLen; omega
    case c4 => have := HFL.out; omega
    case c5 => simp
    intro v4 w4 ho4 hgrow _ hblk
    have HF4 := Lib.hid ((HF3.out.alloc (.cells #[] 5)).grown hgrow (fun k hk hlt => by
      have := HF3.out.size
      simp [Value.ownBlock] at hk; omega))
    clear hgrow hblk
    rcases ho4.2 with ⟨hv, hx⟩ | ⟨g, cap, cur, hv, hb, hg, hnc, hcm, hcs, htake⟩
    · exfalso
      have h1 := HFL.out
      omega
    subst hv
    have HO4 := Lib.hid ho4
    have HG : Hid (w.heap.size ≤ g) := by
      show w.heap.size ≤ g
      have := HF3.out.size
      omega
    have HC := Lib.hid hnc
    have hcc : (F.length : Int) ≤ (cap : Int) := by omega
    clear ho4 hb hg hnc hcm hcs htake
    go_wp2_with fail
    rw [efr]
    clear efr
    obtain ⟨S, hS⟩ : ∃ S, S = sum4 (Crc.crc (head l.length ++ l)) := ⟨_, rfl⟩
    have HSL : Hid (S.length = 4) := by show _ = _; rw [hS]; rfl
    have HFS : Hid (F = head l.length ++ (S ++ l)) := by show _ = _; rw [HFF.out, hS]; rfl
    have HS := Lib.hid hS
    clear hS
    go_loopw [15, 16] (fun tb s wr => ∃ (i : Nat) (m : List UInt8) (t : Bool), i ≤ 32 ∧ fr + i ≤ 8 * l.length ∧ tb = .bool t ∧ s = .int .i64 i ∧ Hid (wr.ownsRow w3.heap.size 5 1 (.slice (some ⟨g, 0, none⟩) F.length cap) F.length (cb (head l.length ++ (S ++ m)))) ∧ Hid (Fr NoBlk w wr) ∧ Hid (Turned l fr mk i m t)) (fun _ s _ => 32 - (intOf s).toNat)
    case atStart => exact ⟨0, l, false, by omega, by omega, rfl, rfl, by rw [← HFS.out]; exact HO4, HF4, Turned.start l fr mk⟩
    case round =>
      obtain ⟨i, m, t, hi32, hfi, rfl, rfl, HO, HFR, HTU⟩ := hrel
      by_cases hgo : i < 32 ∧ fr + i < 8 * l.length
      · obtain ⟨hi2, hfi2⟩ := hgo
        have hA1 : (m.getD ((fr + i) / 8) 0) = (m.getD ((fr + i) / 8) 0) := rfl
        have hia : (fr + i) / 8 < l.length := by omega
        have hget : (cb (head l.length ++ (S ++ m)))[6 + (fr + i) / 8]? = some (.int .u8 ((m.getD ((fr + i) / 8) 0).toNat : Int)) := by
          rw [cb_get _ _ (by rw [List.length_append, List.length_append, head_len, HSL.out, HTU.out.len]; omega)]
          congr 3
          rw [List.getD_eq_getElem?_getD, ← List.append_assoc, List.getElem?_append_right (by rw [List.length_append, head_len, HSL.out]; omega), List.length_append, head_len, HSL.out, show 6 + (fr + i) / 8 - (2 + 4) = (fr + i) / 8 by omega, ← List.getD_eq_getElem?_getD]
        have hcell := HO.out.cellAt (6 + (fr + i) / 8) (by have := HFL.out; omega)
        rw [hget] at hcell
        have hfree := HO.out.frozenAt (6 + (fr + i) / 8)
        have g1 : (0 : Int) ≤ 6 + ((fr : Int) + (i : Int)) / 8 := by omega
        have g2 : 6 + ((fr : Int) + (i : Int)) / 8 < (F.length : Int) := by have := HFL.out; omega
        have ebit : bits .and .u32 ((mk : Int) / 2 ^ i) 1 = (((mk / 2 ^ i) % 2 : Nat) : Int) := by
          have hd : mk / 2 ^ i ≤ mk := Nat.div_le_self _ _
          rw [show ((mk : Int) / 2 ^ i) = ((mk / 2 ^ i : Nat) : Int) by rw [Int.natCast_ediv]; simp, show (1 : Int) = ((1 : Nat) : Int) from rfl, u32_and_nat _ _ (by omega) (by omega), Nat.and_one_is_mod]
        have htb : mk.testBit i = decide ((mk / 2 ^ i) % 2 = 1) := Nat.testBit_eq_decide_div_mod_eq ..
        clear hget hA1
        obtain ⟨x, hx⟩ : ∃ x, x = m.getD ((fr + i) / 8) 0 := ⟨_, rfl⟩
        rw [← hx] at hcell
        have HX := Lib.hid hx
        clear hx
        cases hb : mk.testBit i with
        | true =>
          have HTU2 := Lib.hid (HTU.out.turn hb hfi2)
          have f8 : (bits .and .u32 ((mk : Int) / 2 ^ i) 1 == 1) = true := by
            rw [ebit]
            rw [hb] at htb
            have := of_decide_eq_true htb.symm
            rw [this]; rfl
          obtain ⟨x2, hx2⟩ : ∃ x2, x2 = x ^^^ UInt8.ofNat (2 ^ ((fr + i) % 8)) := ⟨_, rfl⟩
          have e9 : bits .xor .u8 (x.toNat : Int) (2 ^ ((fr + i) % 8) % 256) = (x2.toNat : Int) := by
            have hlt : (2 : Nat) ^ ((fr + i) % 8) < 2 ^ 8 := Nat.pow_lt_pow_right (by omega) (Nat.mod_lt _ (by omega))
            have e : ((2 : Int) ^ ((fr + i) % 8) % 256) = ((2 ^ ((fr + i) % 8) : Nat) : Int) := by
              have h2 : ((2 : Int) ^ ((fr + i) % 8)) = ((2 ^ ((fr + i) % 8) : Nat) : Int) := by simp
              rw [h2]
              generalize 2 ^ ((fr + i) % 8) = pw at hlt ⊢
              omega
            rw [e, u8_xor_nat _ _ x.toNat_lt (by omega), hx2, UInt8.toNat_xor, UInt8.toNat_ofNat', Nat.mod_eq_of_lt hlt]
          have hcl : (cb (head l.length ++ (S ++ m))).set (6 + (fr + i) / 8) (.int .u8 (x2.toNat : Int)) = cb (head l.length ++ (S ++ turn m (fr + i))) := by
            unfold turn
            rw [← HX.out, ← hx2, cb_append, cb_append, cb_append, cb_append]
            have h1 : (cb (head l.length)).length = 2 := by rw [cb_length, head_len]
            have h2 : (cb S).length = 4 := by rw [cb_length, HSL.out]
            rw [List.set_append_right _ _ (by omega), h1, List.set_append_right _ _ (by omega), h2, show 6 + (fr + i) / 8 - 2 - 4 = (fr + i) / 8 by omega]
            congr 2
            unfold cb
            rw [List.map_set]
          have hst := (HO.out.stored (6 + (fr + i) / 8) (.int .u8 (x2.toNat : Int))).1
          rw [hcl] at hst
          have HO2 := Lib.hid hst
          have HFR2 := Lib.hid (HFR.out.setCell (p := ⟨g, 6 + (fr + i) / 8, none⟩) (fun h => by have := HG.out; exact absurd h (by show ¬ g < _; omega)) (.int .u8 (x2.toNat : Int)))
          clear ebit htb hb hst hcl hx2
          go_wp2_with fail
          go_roundw
          case rel => exact ⟨i + 1, turn m (fr + i), true, by omega, by omega, rfl, by go_num, HO2, HFR2, HTU2⟩
          case measure => simp [intOf]; omega
        | false =>
          have HTU2 := Lib.hid (HTU.out.skip hb)
          have f8 : (bits .and .u32 ((mk : Int) / 2 ^ i) 1 == 1) = false := by
            rw [ebit]
            rw [hb] at htb
            have := of_decide_eq_false htb.symm
            rw [show mk / 2 ^ i % 2 = 0 by omega]; rfl
          clear ebit htb hb hcell hfree
          go_wp2_with fail
          go_roundw
          case rel => exact ⟨i + 1, m, t, by omega, by omega, rfl, by go_num, HO, HFR, HTU2⟩
          case measure => simp [intOf]; omega
      · have hsn := HTU.out.seen hi32 hfi (by omega)
        rw [← HS.out] at hsn
        have hk := unframe_any wr (HT.out.fr HFR.out (fun h => h)) (some ⟨g, 0, none⟩) F.length cap (head l.length ++ (S ++ m)) (by rw [List.length_append, List.length_append, head_len, HSL.out, HTU.out.len, HFL.out]; omega) (Rd.of_own HO.out) (fun h => by cases h) (by rw [List.length_append, List.length_append, head_len, HSL.out, HTU.out.len]; omega) HC.out
        rw [hsn] at hk
        have HK := Lib.hid hk
        clear hk hsn
        have HRA := Lib.hid (HR.out.nofr HFR.out)
        have hor : ¬ i < 32 ∨ (i < 32 ∧ ¬ fr + i < 8 * l.length) := by omega
        clear hgo
        rcases hor with hn | ⟨hn1, hn⟩
        all_goals
          go_wp2_with fail
          refine HK.out.mono ?_
          clear HK
          rintro e w5 hp5
          unfold UnPost at hp5
          cases t with
          | true =>
            obtain ⟨v5, rfl, hn5⟩ := hp5
            obtain ⟨A5, c5, rfl, _, _⟩ := own_form hn5.own
            have HE := Lib.hid (HFR.out.trans hn5.fr)
            clear hn5
            go_wp2_with fail
            go_ret
            exact ⟨rfl, HE.out⟩
          | false =>
            obtain ⟨v5, rfl, hn5⟩ := hp5
            obtain ⟨A5, c5, rfl, _, _⟩ := own_form hn5.own
            have HE := Lib.hid (HFR.out.trans hn5.fr)
            have s1 := strOf w5 A5 _ c5 l rfl (Rd.of_own hn5.own)
            have s2 := strOf w5 A _ c l rfl (HRA.out.nofr hn5.fr)
            clear hn5
            go_wp2_with fail
            go_ret
            exact ⟨rfl, HE.out⟩

theorem paramsOk : ∀ t ∈ Tryd.f8.params.toList, Tryd.prog.readableRec t = true ∧ t < Tryd.prog.types.size := fun t ht => by
  have h := List.all_eq_true.1 (show (Tryd.f8.params.toList.all fun t => Tryd.prog.readableRec t && decide (t < Tryd.prog.types.size)) = true by kernel_rfl) t ht
  simpa using h
theorem paramsPlain : ∀ (j : Nat) t, Tryd.f8.params[j]? = some t → Tryd.prog.wantsStandIn t = false := fun j t ht => by
  have h := List.all_eq_true.1 (show (Tryd.f8.params.toList.all fun t => !Tryd.prog.wantsStandIn t) = true by kernel_rfl) t (by simpa using Array.mem_of_getElem? ht)
  simpa using h

theorem contract (H : Type) (enc : TypeId × Value → H) (W : World) (args : Array Value) (ds gs : List (DataW H)) (before : List MemPlace)
    (base : Nat) (hval : ∀ (j : Nat) t v, Tryd.f8.params[j]? = some t → args[j]? = some v → Value.okWide Tryd.prog W .any base t v)
    (hW : DataW.Whole enc Tryd.prog Tryd.f8.params.toList Rows.codeBurstsSpec.vars false W args.toList ds gs before) (hL : laidMetH Tryd.prog Rows.codeBurstsRow.laid W) :
    Calls Tryd.prog 8 args W fun e W' => ∃ v, e = .returned v ∧ Rows.codeBurstsSpec.post enc Tryd.prog Tryd.f8 false true false false W args v W' := by
  have hW' := hW
  obtain ⟨p, q, hA, hV, rfl, _, _⟩ := hW
  rw [Tryd.params8] at hA hval
  obtain ⟨v0, vs0, d0, ds0, p0, q0, hargs, rfl, rfl, h0, r0⟩ := trodAll_cons hA
  obtain ⟨v1, vs1, d1, ds1, p1, q1, rfl, rfl, rfl, h1, r1⟩ := trodAll_cons r0
  obtain ⟨v2, vs2, d2, ds2, p2, q2, rfl, rfl, rfl, h2, r2⟩ := trodAll_cons r1
  obtain ⟨rfl, rfl, rfl⟩ := trodAll_nil r2
  obtain rfl : args = #[v0, v1, v2] := by cases args; simp_all
  obtain ⟨rfl, rfl⟩ := trodVars_none hV
  obtain ⟨A, c, l, rfl, hr, hA', hlc, hcm⟩ := open_bytes (hval 0 _ v0 rfl rfl) h0
  obtain ⟨b, rfl, rfl, rfl, wb⟩ := open_int Tryd.underlying3 (hval 1 _ v1 rfl rfl) h1
  obtain ⟨mk, rfl, rfl, rfl, wm⟩ := open_int Tryd.underlying68 (hval 2 _ v2 rfl rfl) h2
  obtain ⟨mk, rfl, hmk⟩ := nat_u32 wm
  have walk := walk W (table hL) A c l b mk (by omega) hr hA' (by omega)
  refine walk.mono fun e W' ⟨he, hf⟩ => ?_
  subst he
  exact ⟨_, rfl, law_post laidOut paramsOk rfl rfl Tryd.underlying4 hW' rfl rfl rfl hf⟩

theorem laid_met (os : Os) : laidMet Tryd.prog Rows.codeBurstsRow.laid ((laidWorld os).forCall (fun _ _ => 0) ⟨#[], #[.slice none 0 0, .int .i64 0, .int .u32 0], []⟩).memory :=
  laidMet_of_run' 20 (by kernel_rfl) (by kernel_rfl)
theorem reads (os : Os) {H : Type} (enc : TypeId × Value → H) : ∃ places, DataW.whole enc Tryd.prog ((laidWorld os).forCall (fun _ _ => 0) ⟨#[], #[.slice none 0 0, .int .i64 0, .int .u32 0], []⟩).memory Tryd.f8.params.toList Rows.codeBurstsSpec.vars false (#[.slice none 0 0, .int .i64 0, .int .u32 0] : Array Value).toList 8 = some ([.nil, .lit (.int .i64 0), .lit (.int .u32 0)], [], places) :=
  ⟨[], by kernel_rfl⟩

set_option maxRecDepth 100000 in
theorem lifted (os : Os) (started : os.Started) (H : Type) (enc : TypeId × Value → H) (F : Stop.Interp) :
    ReturnsInHanded {} Tryd.checked os 8 .any ((OpenSpec.ofChange Rows.codeBurstsSpec).preRow enc Tryd.prog Tryd.f8 Rows.codeBurstsRow.domain false Rows.codeBurstsRow.laid) (((OpenSpec.ofChange Rows.codeBurstsSpec).at F).post enc Tryd.prog Tryd.f8 false true false false) := by
  obtain ⟨places, hx⟩ := reads os enc
  refine returnsInHanded_of_row (C := Tryd.checked) (s := OpenSpec.ofChange Rows.codeBurstsSpec) own started (by kernel_rfl) Tryd.func8
    (witness_row_at (enc := enc) (C := Tryd.checked) false (laidWorld os) #[.slice none 0 0, .int .i64 0, .int .u32 0] rfl (by kernel_rfl) (by kernel_rfl) (by kernel_rfl)
      (OpenSpec.preRow_of_cond 8 hx (by kernel_rfl) (fun k hk => by cases hk) (by kernel_rfl) (laid_met os))) ?_
  intro W base args ds gs before hval hW _ _ _ hL _ _
  exact contract H enc W args ds gs before base hval hW hL

theorem said : Rows.CodeBurstsSaid :=
  OpenClaim.holds_of_cond 8 Tryd.f8 rfl rfl rfl rfl rfl rfl rfl ⟨rfl, rfl, rfl, rfl, rfl⟩ rfl rfl rfl rfl rfl (by kernel_rfl) Tryd.func8 (by kernel_rfl)
    (of_decide_eq_true (by kernel_rfl)) (by unfold Func.isWrapper; first | (rw [if_pos (by decide +kernel)]; kernel_rfl) | (rw [if_neg (by decide +kernel)]; exact ⟨rfl, rfl⟩))
    (fun os started H enc _ F => by rw [OpenClaim.pre_eq_preRow]; exact lifted os started H enc F)

theorem plain (f : FuncId) (fn : Func) (hf : Tryd.pinned.checked.prog.funcNamed "argosy/argosylaw01.CodeBursts" = some f) (hfn : Tryd.pinned.checked.prog.funcs[f]? = some fn) :
    false = Tryd.pinned.checked.prog.looks [] ∧ ∀ (j : Nat) t, fn.params[j]? = some t → Tryd.pinned.checked.prog.wantsStandIn t = false := by
  obtain rfl : f = 8 := Option.some.inj ((show Tryd.prog.funcNamed "argosy/argosylaw01.CodeBursts" = some 8 by kernel_rfl).symm.trans hf) |>.symm
  obtain rfl : fn = Tryd.f8 := (Option.some.inj (Tryd.func8.symm.trans hfn)).symm
  exact ⟨by kernel_rfl, paramsPlain⟩

theorem card : Rows.CodeBurstsCardSaid :=
  Claim7.holds_tied_plain_at .later [] _ _ _ _ said (fun _ h => by cases h) (by kernel_rfl) (fun _ h => by cases h) codeBursts_row_tie rfl ⟨rfl, rfl⟩ (by kernel_rfl) rfl plain (by kernel_rfl)
end Go.Proofs.YtmghlalddgklaaaDoor.codeBursts
