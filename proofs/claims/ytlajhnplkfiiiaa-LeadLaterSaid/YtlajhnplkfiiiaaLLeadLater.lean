/- LeadLater is true: a leader under a later ballot, to whom more than half have promised, takes up what was chosen ahead of it. No condition. -/
import Derived.Test.YtlajhnplkfiiiaaLtM
import Derived.Test.YtlajhnplkfiiiaaSpeaks12
import Derived.Test.YtlajhnplkfiiiaaLawp
import Derived.Deep.LoopGhost
import Derived.IntWalk
namespace Go.Proofs.Ytlajhnplkfiiiaa.leadLater
open Go.ChangeShapes Go.WideShapes Go.ChangeAt Go.RowKit Go.Maps

theorem low_bits (k : Int) (m : Nat) (hm : m ≤ 65535) : ∃ q : Nat, bits .and .i64 k (m : Int) = (q : Int) ∧ q ≤ m := by
  have e : (BitVec.ofInt 64 (m : Int)).toNat = m := by rw [BitVec.ofInt_natCast, BitVec.toNat_ofNat]; omega
  have hq : (BitVec.ofInt 64 k &&& BitVec.ofInt 64 (m : Int)).toNat ≤ m := by
    rw [BitVec.toNat_and]
    have := Nat.and_le_right (n := (BitVec.ofInt 64 k).toNat) (m := (BitVec.ofInt 64 (m : Int)).toNat)
    omega
  refine ⟨(BitVec.ofInt 64 k &&& BitVec.ofInt 64 (m : Int)).toNat, ?_, hq⟩
  show IntKind.i64.wrap (((BitVec.ofInt 64 k &&& BitVec.ofInt 64 (m : Int)).toNat : Nat) : Int) = _
  generalize (BitVec.ofInt 64 k &&& BitVec.ofInt 64 (m : Int)).toNat = q at *
  exact IntWalk.i64_in _ (by omega)

set_option maxRecDepth 100000 in
set_option maxHeartbeats 8000000 in
theorem walk (W : World) (z : Int) (t s : Nat) :
    Calls Try.prog 4 #[.int .i64 z, .int .u64 (t : Int), .int .u64 (s : Int)] W fun e W' => e = .returned (.bool true) ∧ Fr NoBlk W W' := by
  have HS := Lib.hid (speaks_any W)
  obtain ⟨q, hq, hq7⟩ := low_bits z 7 (by omega)
  have hqq : bits .and .i64 z 7 = (q : Int) := hq
  have hwn : IntKind.i64.wrap (1 + (q : Int)) = ((q + 1 : Nat) : Int) := by rw [IntWalk.i64_in _ (by omega)]; omega
  clear hq
  go_enter Try.func4, Try.ntmps4
  go_wp2_with fail
  refine HS.out.mono ?_
  clear HS
  rintro e w1 ⟨rfl, hf1⟩
  have HF1 := Lib.hid hf1
  clear hf1
  obtain ⟨n, hn⟩ : ∃ n, n = q + 1 := ⟨_, rfl⟩
  rw [← hn] at hwn
  have HN : Hid (1 ≤ n ∧ n ≤ 8) := by show _ ∧ _; omega
  clear hn hq7
  go_wp2_with fail
  refine (newLeS w1 1 (n : Int) 0 (by have := HN.out; omega) (by omega)).mono ?_
  rintro e w2 ⟨g1, p1, t1, v1, rfl, hl1⟩
  have HL1 := Lib.hid hl1
  clear hl1
  go_wp2_with fail
  refine (newLeS w2 2 (n : Int) 0 (by have := HN.out; omega) (by omega)).mono ?_
  rintro e w3 ⟨g2, p2, t2, v2, rfl, hl2⟩
  obtain ⟨w4, hw4⟩ : ∃ w4, w4 = w3.alloc (.cells #[] 53) := ⟨_, rfl⟩
  have HJ0 : Hid (J 0 t 0 (fun p => p ≤ 1) [] (some ⟨w3.heap.size, 0, none⟩) 0 ⟨g1, p1, t1, v1⟩ ⟨g2, p2, t2, v2⟩ (newS (n : Int) 0) (newS (n : Int) 0) W w4) := by
    have hfa : Fr NoBlk w3 w4 := by rw [hw4]; exact (Fr.refl _ _).alloc _
    have h1 : LdQ w3 w1.heap.size ⟨g1, p1, t1, v1⟩ (newS (n : Int) 0) := HL1.out.ld.nofr hl2.fr
    have h2 : LdQ w3 w2.heap.size ⟨g2, p2, t2, v2⟩ (newS (n : Int) 0) := hl2.ld
    have h1' : LdQ w2 w1.heap.size ⟨g1, p1, t1, v1⟩ (newS (n : Int) 0) := HL1.out.ld
    have hs1 := HF1.out.size
    have hs2 := HL1.out.fr.size
    have hw : Fr NoBlk W w4 := ((HF1.out.trans HL1.out.fr).trans hl2.fr).trans hfa
    have ho : w4.ownsRow W.heap.size 53 1 (.slice (some ⟨w3.heap.size, 0, none⟩) 0 0) 0 [] := by
      rw [hw4]; exact own_base (World.ownsRow_made w3 #[] 0 (Nat.le_refl _) (by decide) rfl) ((HF1.out.trans HL1.out.fr).trans hl2.fr).size
    refine ⟨⟨(LdS.low h1 hs1).nofr hfa, (LdS.low h2 (Nat.le_trans hs1 hs2)).nofr hfa, GrpIn.nil _ hw, fun k hk e => ?_, fun r hr => ?_⟩, ho, rfl, fun j v hj => by cases hj⟩
    · have := LdQ.lt h1' hk
      have := LdQ.since h2 e
      omega
    · have e : w3.heap.size = r := by simpa [Value.ownBlock] using hr
      subst e
      exact ⟨(own_blk ho rfl).2, fun e => by have := LdQ.lt h1 e; omega, fun e => by have := LdQ.lt h2 e; omega⟩
  have HW4 := Lib.hid hw4
  clear hl2 hw4 HL1 HF1
  go_upto_region 9 with fail
  rw [← HW4.out]
  clear HW4
  go_wp2_with fail
  clear hqq hwn
  obtain ⟨a, ha⟩ : ∃ a : Lq, a = ⟨g1, p1, t1, v1⟩ := ⟨_, rfl⟩
  obtain ⟨b, hb⟩ : ∃ b : Lq, b = ⟨g2, p2, t2, v2⟩ := ⟨_, rfl⟩
  rw [← ha, ← hb] at HJ0
  obtain rfl : a.g = g1 := by rw [ha]
  obtain rfl : b.g = g2 := by rw [hb]
  clear ha hb
  have HFA0 := Lib.hid (FA.new n)
  go_loopw [12, 13] (fun sl i wr => ∃ (k : Nat) (vs : List Vi) (A : Option Addr) (c : Nat) (LA : LdrS), k ≤ n ∧ sl = .slice A k c ∧ i = .int .i64 (k : Int) ∧ Hid (J k t 0 (fun p => p ≤ 1) vs A c a b LA (newS (n : Int) 0) W wr) ∧ Hid (FA n k LA)) (fun _ i _ => (n - intOf i).toNat)
  case atStart => exact ⟨0, [], _, 0, _, by omega, rfl, rfl, HJ0.out, HFA0.out⟩
  case round => as_aux_lemma =>
    clear HJ0 HFA0
    obtain ⟨k, vs, A, c, LA, hk, rfl, rfl, HJ, HFA⟩ := hrel
    have hwk : IntKind.i64.wrap ((k : Int) + 1) = (k : Int) + 1 := by rw [IntWalk.i64_in _ (by have := HN.out; omega)]
    by_cases hlt : k < n
    · have hki : (k : Int) < (n : Int) := by omega
      have hk8 : k < 8 := by have := HN.out; omega
      have HK := Lib.hid hlt
      obtain ⟨i0, hi, hz0, hz1, hz2⟩ := info_parts ptrInfo
      go_wp2_with fail
      refine (vnewT_any wr).mono ?_
      rintro e w5 ⟨g, gt, O, rfl, hv5, hf5⟩
      have HV5 := Lib.hid hv5
      have HF5 := Lib.hid hf5
      clear hv5 hf5
      have ho5 : (w5.alloc (.cells #[.pointer (some ⟨g, 0, none⟩)] 53)).ownsRow W.heap.size 53 1 (.slice A vs.length c) vs.length (vs.map fun v => .pointer (some ⟨v.g, 0, none⟩)) := own_fr HJ.out.row (HF5.out.alloc _) (fun _ _ e => e)
      rw [HJ.out.len] at ho5
      have HO5 := Lib.hid ho5
      clear ho5
      go_wp2_with (at_builtin; refine wpList_appO rfl _ _ 52 rfl W.heap.size 53 i0 _ 1 8 Try.underlying52 hi hz0 hz1 hz2 rfl (by decide) (.slice A k c) k (vs.map fun v => .pointer (some ⟨v.g, 0, none⟩)) rfl HO5.out ⟨w5.heap.size, 0, none⟩ 1 1 [.pointer (some ⟨g, 0, none⟩)] rfl rfl (Rd.of_cells (Bk.new w5 _ #[.pointer (some ⟨g, 0, none⟩)])) ?c1 ?c2 ?c3 ?c4 ?_)
      case c1 => intro y hy; rw [List.mem_singleton.1 hy]; rfl
      case c2 => unfold maxLen; omega
      case c3 => omega
      case c4 => exact Nat.le_trans HJ.out.ll.fr.size (HF5.out.alloc _).size
      intro v6 w6 ho6 hg6 hb6
      obtain ⟨A6, c6, rfl, _, _⟩ := own_form ho6
      have HJ6 : Hid (J (k + 1) t 0 (fun p => p ≤ 1) (vs ++ [⟨g, gt, O, 0, []⟩]) A6 c6 a b LA (newS (n : Int) 0) W w6) := HJ.out.push (u := ⟨g, gt, O, 0, []⟩) rfl HV5.out rfl (Nat.zero_le _) HF5.out ((Fr.refl _ _).alloc _) ho6 hg6 (by rw [World.size_alloc]; exact hb6)
      have HAT : Hid ((vs ++ [(⟨g, gt, O, 0, []⟩ : Vi)])[k]? = some ⟨g, gt, O, 0, []⟩) := by
        show _ = _
        rw [List.getElem?_append_right (by rw [HJ.out.len]; exact Nat.le_refl _), HJ.out.len, Nat.sub_self]; rfl
      obtain ⟨us, hus⟩ : ∃ us, us = vs ++ [(⟨g, gt, O, 0, []⟩ : Vi)] := ⟨_, rfl⟩
      rw [← hus] at HJ6 HAT
      clear ho6 hg6 hb6 hus HO5 HV5 HF5 HJ
      have HPR : Hid (Calls Try.prog 17 #[.pointer (some ⟨g, 0, none⟩), .int .u64 1, .int .i64 0] w6 fun e w' => ∃ A c, e = .returned (.tuple #[.slice A 0 c, .bool true]) ∧ (∀ r, ablk A r → w6.heap.size ≤ r) ∧ VoT w' W.heap.size g gt O 1 [] ∧ Fr (fun k => k = g) w6 w') := (vpromiseT_any w6 W.heap.size g gt O 0 [] (HJ6.out.vo HAT.out) 1 0).mono fun e w' hp => by
        unfold PromPostT at hp
        rw [if_neg (by omega)] at hp
        obtain ⟨A, c, h1, h2, h3, h4⟩ := hp
        exact ⟨A, c, h1, own_from h2, h3, h4⟩
      go_wp2_with fail
      refine HPR.out.mono ?_
      rintro e w7 ⟨A7, c7, rfl, hab, hv7, hf7⟩
      have HJ7 : Hid (J (k + 1) t 0 (fun p => p ≤ 1) (us.set k ⟨g, gt, O, 1, []⟩) A6 c6 a b LA (newS (n : Int) 0) W w7) := HJ6.out.turned HAT.out (u := ⟨g, gt, O, 1, []⟩) rfl hv7 (hf7.mono fun _ _ e => .inl e) (fun r hr => .inl hr) _ ⟨rfl, Nat.le_refl _⟩ (fun j v _ hj => HJ6.out.xs j v hj)
      have HPM : Hid (Calls Try.prog 18 #[.pointer (some ⟨a.g, 0, none⟩), .int .i64 (k : Int), .slice A7 0 c7] w7 fun e w' => e = .returned (.tuple #[]) ∧ LdQ w' W.heap.size a (promS LA (k : Int) []) ∧ Fr a.bl w7 w') :=
        (promS_any w7 _ _ _ _ _ LA HJ7.out.ll.la (by have := HFA.out.npb; omega) (k : Int) (wf64_of (by omega)) A7 c7 [] (by rw [HFA.out.nv]; decide) (Rd.none_ _ _) (fun _ h => by cases h) (fun r hr e => by
          have h1 := hab r hr
          have h2 := LdQ.lt HJ6.out.ll.la (k := r) (by rcases e with e | e | e; exact .inl e; exact .inr (.inl e); exact .inr (.inr (.inr e)))
          omega)).mono fun e w' ⟨h1, h2, h3⟩ => ⟨h1, h2, h3.mono fun r _ e => by rcases e with e | e | e; exact .inl e; exact .inr (.inl e); exact .inr (.inr (.inr e))⟩
      have HFA8 := Lib.hid (HFA.out.step HK.out)
      clear hab hv7 hf7 HPR HJ6 HAT HFA
      go_wp2_with fail
      refine HPM.out.mono ?_
      rintro e w8 ⟨rfl, hl8, hf8⟩
      have HJ8 := Lib.hid (HJ7.out.ldA hl8 hf8)
      clear hl8 hf8 HPM HJ7
      go_wp2_with fail
      go_roundw
      case rel => exact ⟨k + 1, _, A6, c6, _, by omega, rfl, by go_num, HJ8, HFA8⟩
      case measure => simp [intOf]; omega
    · have hkn : k = n := by omega
      subst hkn
      have hki : ¬ (k : Int) < (k : Int) := by omega
      clear hk hlt hwk
      have hk8 : k ≤ 8 := HN.out.2
      have HOF : Hid (Calls Try.prog 19 #[.pointer (some ⟨a.g, 0, none⟩), .string { data := #[99, 104, 111, 115, 101, 110] }] wr fun e w' => e = .returned (.bool (offBS LA)) ∧ LdQ w' W.heap.size a (offS LA ch) ∧ Fr a.bl wr w') := (offerS_any wr _ _ _ _ _ LA HJ.out.ll.la (by rw [HFA.out.nv]; decide) ch).mono fun e w' ⟨h1, h2, h3⟩ => ⟨h1, h2, h3.mono fun r _ e => .inr (.inr (.inr e))⟩
      go_wp2_with fail
      refine HOF.out.mono ?_
      rintro e w9 ⟨rfl, hl9, hf9⟩
      have HJ9 := Lib.hid (HJ.out.ldA hl9 hf9)
      have HFB9 := Lib.hid (HFA.out.offer (t := t) HN.out.1)
      clear hl9 hf9 HOF HJ HFA
      go_wp2_with fail
      go_loopw [17, 75] (fun d i wr => ∃ (j : Nat) (vs : List Vi) (LA : LdrS) (F : Bool), j ≤ k ∧ d = .bool F ∧ i = .int .i64 (j : Int) ∧ Hid (F = decide (k < 2 * cnt (tkb t) j)) ∧ Hid (J k t j (fun p => p ≤ 1) vs A c a b LA (newS (k : Int) 0) W wr) ∧ Hid (FB k j t LA)) (fun _ i _ => (k - intOf i).toNat)
      case atStart => exact ⟨0, _, _, false, by omega, rfl, rfl, (decide_eq_false (Nat.not_lt_zero _)).symm, HJ9.out, HFB9.out⟩
      case round => as_aux_lemma =>
        clear HJ9 HFB9
        obtain ⟨j, vs, LA, F, hj, rfl, rfl, HFD, HJ, HFB⟩ := hrel
        have hwj : IntKind.i64.wrap ((j : Int) + 1) = (j : Int) + 1 := by rw [IntWalk.i64_in _ (by omega)]
        by_cases hlt : j < k
        · have hji : (j : Int) < (k : Int) := by omega
          obtain ⟨v, hv⟩ : ∃ v, vs[j]? = some v := ⟨_, List.getElem?_eq_getElem (by rw [HJ.out.len]; exact hlt)⟩
          obtain ⟨bb, o, hA, hc⟩ := HJ.out.at_ hv
          have HV := Lib.hid hv
          have HK := Lib.hid hlt
          subst hA
          clear hv
          by_cases hb : bits .and .u64 ((t : Int) / 2 ^ j) 1 = 1
          · have HTK : Hid (tkb t j = true) := by show decide _ = _; exact decide_eq_true hb
            have HX := Lib.hid (HJ.out.xs j v HV.out)
            have HAC : Hid (Calls Try.prog 20 #[.pointer (some ⟨v.g, 0, none⟩), .agg #[.int .i64 0, .int .u64 1, .string { data := #[99, 104, 111, 115, 101, 110] }]] wr fun e w' => e = .returned (.bool true) ∧ ∃ O', VoT w' W.heap.size v.g v.gt O' 1 (Xs true) ∧ (∀ r, O' r → v.O r ∨ wr.heap.size ≤ r) ∧ Fr (fun r => r = v.g ∨ v.O r) wr w') := (vacceptT_any wr W.heap.size v.g v.gt v.O v.p v.xs (HJ.out.vo HV.out) ⟨0, 1, [99, 104, 111, 115, 101, 110]⟩).mono fun e w' hq => by
              have hx : v.xs = [] := by rw [HX.out.1, decide_eq_false (Nat.lt_irrefl _)]; rfl
              have ht : takesT v.p ⟨0, 1, [99, 104, 111, 115, 101, 110]⟩ = true := by
                unfold takesT
                rw [decide_eq_false (show ¬ 1 < v.p by have := HX.out.2; omega)]
                rfl
              obtain ⟨h1, O', h2, h3, h4⟩ := hq
              rw [ht, hx] at h2
              rw [ht] at h1
              exact ⟨h1, O', h2, h3, h4⟩
            go_wp2_with fail
            refine HAC.out.mono ?_
            rintro e w5 ⟨rfl, O', hv5, hO5, hf5⟩
            have HJ5 : Hid (J k t (j + 1) (fun p => p ≤ 1) (vs.set j ⟨v.g, v.gt, O', 1, Xs true⟩) (some ⟨bb, o, none⟩) c a b LA (newS (k : Int) 0) W w5) := HJ.out.turned HV.out (u := ⟨v.g, v.gt, O', 1, Xs true⟩) rfl hv5 hf5 (fun r hr => by
              rcases hr with hr | hr
              · exact .inl (.inl hr)
              · exact (hO5 r hr).imp (fun x => .inr x) id) _ ⟨by rw [HTK.out, decide_eq_true (Nat.lt_succ_self _)]; rfl, Nat.le_refl _⟩ (fun m u hm hu => by
              obtain ⟨e1, e2⟩ := HJ.out.xs m u hu
              exact ⟨e1.trans (by rw [decide_eq_decide.2 (show m < j ↔ m < j + 1 by omega)]), e2⟩)
            have HTA : Hid (Calls Try.prog 21 #[.pointer (some ⟨a.g, 0, none⟩), .int .i64 (j : Int), .int .i64 0] w5 fun e w' => ∃ x B, e = .returned (.tuple #[x, .bool B]) ∧ B = (takenS LA (j : Int) 0).2.isSome ∧ LdQ w' W.heap.size a (takenS LA (j : Int) 0).1 ∧ Fr a.bl w5 w') :=
              (takenS_any w5 _ _ _ _ _ LA HJ5.out.ll.la (by have := HFB.out.nt; omega) (j : Int) 0 (wf64_of (by omega))).mono fun e w' ⟨h1, h2, h3⟩ => ⟨_, _, h1, rfl, h2, h3.mono fun r _ e => by rcases e with e | e | e; exact .inl e; exact .inr (.inr (.inl e)); exact .inr (.inr (.inr e))⟩
            have HFT := Lib.hid (HFB.out.take HTK.out HK.out)
            clear hv5 hO5 hf5 HAC HJ HFB
            go_wp2_with fail
            refine HTA.out.mono ?_
            rintro e w6 ⟨xv, B, rfl, hB, hl6, hf6⟩
            have HJ6 := Lib.hid (HJ5.out.ldA hl6 hf6)
            have HF6 : Hid ((F || B) = decide (k < 2 * cnt (tkb t) (j + 1))) := by show _ = _; rw [HFD.out, hB]; exact HFT.out.2
            clear hB hl6 hf6 HTA HJ5 HFD
            cases F with
            | true =>
              go_wp2_with fail
              go_roundw
              case rel => exact ⟨j + 1, _, _, true, by omega, rfl, by go_num, HF6, HJ6, HFT.out.1⟩
              case measure => simp [intOf]; omega
            | false =>
              go_wp2_with fail
              go_roundw
              case rel => exact ⟨j + 1, _, _, B, by omega, rfl, by go_num, HF6, HJ6, HFT.out.1⟩
              case measure => simp [intOf]; omega
          · have HTK : Hid (tkb t j = false) := by show decide _ = _; exact decide_eq_false hb
            have HJ5 := Lib.hid (HJ.out.skip HTK.out)
            have HFB5 := Lib.hid (HFB.out.skip HTK.out)
            have HFD5 : Hid (F = decide (k < 2 * cnt (tkb t) (j + 1))) := by show _ = _; rw [cnt_not HTK.out]; exact HFD.out
            clear HJ HFB HFD
            go_wp2_with fail
            go_roundw
            case rel => exact ⟨j + 1, vs, LA, F, by omega, rfl, by go_num, HFD5, HJ5, HFB5⟩
            case measure => simp [intOf]; omega
        · have hjk : j = k := by omega
          subst hjk
          have hji : ¬ (j : Int) < (j : Int) := by omega
          have HJ3 : Hid (J j t j (fun p => p ≤ 2) vs A c a b LA (newS (j : Int) 0) W wr) := HJ.out.weak fun x hx => Nat.le_trans hx (by decide)
          have HFC0 := Lib.hid (FC.new j t s)
          clear hj hlt hwj HJ HFB
          go_wp2_with fail
          go_loopw [104] (fun i wr => ∃ (m : Nat) (vs : List Vi) (LB : LdrS), m ≤ j ∧ i = .int .i64 (m : Int) ∧ Hid (J j t j (fun p => p ≤ 2) vs A c a b LA LB W wr) ∧ Hid (FC j m t s LB)) (fun i _ => (j - intOf i).toNat)
          case atStart => exact ⟨0, _, _, by omega, rfl, HJ3.out, HFC0.out⟩
          case round => as_aux_lemma =>
            clear HJ3 HFC0
            obtain ⟨m, vs, LB, hm, rfl, HJ, HFC⟩ := hrel
            have hwm : IntKind.i64.wrap ((m : Int) + 1) = (m : Int) + 1 := by rw [IntWalk.i64_in _ (by omega)]
            by_cases hlt : m < j
            · have hmi : (m : Int) < (j : Int) := by omega
              obtain ⟨v, hv⟩ : ∃ v, vs[m]? = some v := ⟨_, List.getElem?_eq_getElem (by rw [HJ.out.len]; exact hlt)⟩
              obtain ⟨bb, o, hA, hc⟩ := HJ.out.at_ hv
              have HV := Lib.hid hv
              have HK := Lib.hid hlt
              subst hA
              clear hv
              by_cases hb : bits .and .u64 ((s : Int) / 2 ^ m) 1 = 1
              · have HTK : Hid (tkb s m = true) := by show decide _ = _; exact decide_eq_true hb
                have HX := Lib.hid (HJ.out.xs m v HV.out)
                have HXS : Hid (v.xs = Xs (tkb t m)) := by show _ = _; rw [HX.out.1, decide_eq_true HK.out, Bool.true_and]
                obtain ⟨nt, hnt⟩ : ∃ nt, nt = (tells t m).length := ⟨_, rfl⟩
                have HNT : Hid (nt = (tells t m).length ∧ nt ≤ 1) := ⟨hnt, by rw [hnt]; exact (xs_tells t m).2.2⟩
                have HPR : Hid (Calls Try.prog 17 #[.pointer (some ⟨v.g, 0, none⟩), .int .u64 2, .int .i64 0] wr fun e w' => ∃ A c, e = .returned (.tuple #[.slice A nt c, .bool true]) ∧ (∀ r, ablk A r → wr.heap.size ≤ r) ∧ Rd w' A (vtsS (tells t m)) ∧ VoT w' W.heap.size v.g v.gt v.O 2 v.xs ∧ Fr (fun r => r = v.g) wr w') := (vpromiseT_any wr W.heap.size v.g v.gt v.O v.p v.xs (HJ.out.vo HV.out) 2 0).mono fun e w' hp => by
                  unfold PromPostT at hp
                  rw [if_neg (by have := HX.out.2; omega)] at hp
                  obtain ⟨A, c, h1, h2, h3, h4⟩ := hp
                  rw [HXS.out] at h1 h2
                  rw [(xs_tells t m).1, (xs_tells t m).2.1, ← hnt] at h2
                  rw [(xs_tells t m).2.1, ← hnt] at h1
                  exact ⟨A, c, h1, own_from h2, (own_cells h2).1, h3, h4⟩
                clear hnt
                go_wp2_with fail
                refine HPR.out.mono ?_
                rintro e w5 ⟨A5, c5, rfl, hab, hr5, hv5, hf5⟩
                have HJ5 : Hid (J j t j (fun p => p ≤ 2) (vs.set m ⟨v.g, v.gt, v.O, 2, v.xs⟩) (some ⟨bb, o, none⟩) c a b LA LB W w5) := HJ.out.turned HV.out (u := ⟨v.g, v.gt, v.O, 2, v.xs⟩) rfl hv5 (hf5.mono fun _ _ e => .inl e) (fun r hr => .inl hr) _ ⟨HX.out.1, Nat.le_refl _⟩ (fun i u _ hu => HJ.out.xs i u hu)
                have HPM : Hid (Calls Try.prog 18 #[.pointer (some ⟨b.g, 0, none⟩), .int .i64 (m : Int), .slice A5 nt c5] w5 fun e w' => e = .returned (.tuple #[]) ∧ LdQ w' W.heap.size b (promS LB (m : Int) (tells t m)) ∧ Fr b.bl w5 w') := by
                  rw [HNT.out.1]
                  exact (promS_any w5 _ _ _ _ _ LB HJ5.out.ll.lb (by have := HFC.out.np; omega) (m : Int) (wf64_of (by omega)) A5 c5 (tells t m) (by have := HFC.out.nv; have := HNT.out; omega) hr5 (fun x hx => by
                    unfold tells at hx
                    split at hx
                    · rw [List.mem_singleton.1 hx]; exact wf64_of (by decide)
                    · cases hx) (fun r hr e => by
                    have h1 := hab r hr
                    have h2 := LdQ.lt HJ.out.ll.lb (k := r) (by rcases e with e | e | e; exact .inl e; exact .inr (.inl e); exact .inr (.inr (.inr e)))
                    omega)).mono fun e w' ⟨h1, h2, h3⟩ => ⟨h1, h2, h3.mono fun r _ e => by rcases e with e | e | e; exact .inl e; exact .inr (.inl e); exact .inr (.inr (.inr e))⟩
                have HFC6 := Lib.hid (HFC.out.take HTK.out HK.out)
                clear hab hr5 hv5 hf5 HPR HJ HFC
                go_wp2_with fail
                refine HPM.out.mono ?_
                rintro e w6 ⟨rfl, hl6, hf6⟩
                have HJ6 := Lib.hid (HJ5.out.ldB hl6 hf6)
                clear hl6 hf6 HPM HJ5
                go_wp2_with fail
                go_roundw
                case rel => exact ⟨m + 1, _, _, by omega, by go_num, HJ6, HFC6⟩
                case measure => simp [intOf]; omega
              · have HTK : Hid (tkb s m = false) := by show decide _ = _; exact decide_eq_false hb
                have HFC5 := Lib.hid (HFC.out.skip HTK.out)
                clear HFC
                go_wp2_with fail
                go_roundw
                case rel => exact ⟨m + 1, vs, LB, by omega, by go_num, HJ, HFC5⟩
                case measure => simp [intOf]; omega
            · have hmj : m = j := by omega
              subst hmj
              have hmi : ¬ (m : Int) < (m : Int) := by omega
              have HFE := Lib.hid HJ.out.ll.fr
              cases F with
              | false =>
                go_wp2_with fail
                go_ret
                exact ⟨rfl, HFE.out⟩
              | true =>
                have HLD := Lib.hid (leadsS_any wr _ _ _ _ _ LB HJ.out.ll.lb)
                obtain ⟨ld, hld⟩ : ∃ ld, ld = LB.leads := ⟨_, rfl⟩
                rw [← hld] at HLD
                have HLE := Lib.hid hld
                clear hld
                go_wp2_with fail
                refine HLD.out.mono ?_
                rintro e w5 ⟨rfl, rfl⟩
                clear HLD
                cases ld with
                | false =>
                  go_wp2_with fail
                  go_ret
                  exact ⟨rfl, HFE.out⟩
                | true =>
                  have HLA := Lib.hid (HFC.out.last HLE.out.symm (of_decide_eq_true HFD.out.symm))
                  have HVA : Hid (Calls Try.prog 23 #[.pointer (some ⟨b.g, 0, none⟩)] wr fun e w' => e = .returned (.tuple #[.string { data := #[99, 104, 111, 115, 101, 110] }, .bool true]) ∧ Fr NoBlk wr w') := (valueS_any wr _ _ _ _ _ LB HJ.out.ll.lb).mono fun e w' ⟨h1, h2⟩ => ⟨by rw [h1, HLA.out.1]; rfl, h2⟩
                  go_wp2_with fail
                  refine HVA.out.mono ?_
                  rintro e w6 ⟨rfl, hf6⟩
                  have HJ6 := Lib.hid (HJ.out.nofr hf6)
                  have HOF : Hid (Calls Try.prog 19 #[.pointer (some ⟨b.g, 0, none⟩), .string { data := #[111, 116, 104, 101, 114] }] w6 fun e w' => e = .returned (.bool false) ∧ Fr b.bl w6 w') := (offerS_any w6 _ _ _ _ _ LB HJ6.out.ll.lb (by have := HFC.out.nv; omega) ⟨#[111, 116, 104, 101, 114]⟩).mono fun e w' ⟨h1, h2, h3⟩ => ⟨by rw [h1, HLA.out.2], h3.mono fun r _ e => .inr (.inr (.inr e))⟩
                  clear hf6 HVA HJ
                  go_wp2_with fail
                  refine HOF.out.mono ?_
                  rintro e w7 ⟨rfl, hf7⟩
                  have HFE7 : Hid (Fr NoBlk W w7) := HJ6.out.ll.fr.step hf7 fun r hr e => by have := HJ6.out.ll.lb; have := LdQ.since this e; omega
                  clear hf7 HOF HJ6
                  go_wp2_with fail
                  go_ret
                  exact ⟨by first | rfl | simp, HFE7.out⟩

theorem paramsOk : ∀ t ∈ Try.f4.params.toList, Try.prog.readableRec t = true ∧ t < Try.prog.types.size := fun t ht => by
  have h := List.all_eq_true.1 (show (Try.f4.params.toList.all fun t => Try.prog.readableRec t && decide (t < Try.prog.types.size)) = true by kernel_rfl) t ht
  simpa using h

set_option maxRecDepth 100000 in
theorem lifted (os : Os) (started : os.Started) (H : Type) (enc : TypeId × Value → H) :
    ReturnsInHanded {} Try.checked os 4 .any (Rows.leadLaterSpec.pre6 enc Try.prog Try.f4 Rows.leadLaterRow.domain false) (Rows.leadLaterSpec.post enc Try.prog Try.f4 false true false false) := by
  refine returnsInHanded_of_change (C := Try.checked) own started (by kernel_rfl) Try.func4
    (ChangeSpec.witness6 (enc := enc) (C := Try.checked) false ⟨#[], #[.int .i64 0, .int .u64 0, .int .u64 0], []⟩ 8 (by kernel_rfl) (by kernel_rfl) (by kernel_rfl) (by kernel_rfl)) ?_
  intro W base args ds gs before hval0 hW _ _
  have hval : ∀ (j : Nat) t v, Try.f4.params[j]? = some t → args[j]? = some v → Value.okWide Try.prog W .any base t v := hval0
  have hW' := hW
  obtain ⟨p, q, hA0, hV, rfl, _, _⟩ := hW
  have hA : DataW.TrodAll enc Try.prog W 0 (fun _ => true) true Try.f4.params.toList args.toList ds p := hA0
  rw [Try.params4] at hA hval
  obtain ⟨v0, vs0, d0, ds0, p0, q0, hargs, rfl, rfl, h0, r0⟩ := trodAll_cons hA
  obtain ⟨v1, vs1, d1, ds1, p1, q1, rfl, rfl, rfl, h1, r1⟩ := trodAll_cons r0
  obtain ⟨v2, vs2, d2, ds2, p2, q2, rfl, rfl, rfl, h2, r2⟩ := trodAll_cons r1
  obtain ⟨rfl, rfl, rfl⟩ := trodAll_nil r2
  obtain rfl : args = #[v0, v1, v2] := by cases args; simp_all
  obtain ⟨rfl, rfl⟩ := trodVars_none hV
  obtain ⟨z0, rfl, rfl, rfl, w0⟩ := open_int Try.underlying3 (hval 0 _ v0 rfl rfl) h0
  obtain ⟨z1, rfl, rfl, rfl, w1⟩ := open_int Try.underlying33 (hval 1 _ v1 rfl rfl) h1
  obtain ⟨z2, rfl, rfl, rfl, w2⟩ := open_int Try.underlying33 (hval 2 _ v2 rfl rfl) h2
  obtain ⟨m1, rfl, hm1⟩ := nat_u64 w1
  obtain ⟨m2, rfl, hm2⟩ := nat_u64 w2
  have walk := walk W z0 m1 m2
  clear hA0 hval0
  refine walk.mono fun e W' ⟨he, hf⟩ => ?_
  subst he
  exact ⟨_, rfl, law_post laidOut paramsOk rfl rfl Try.underlying4 hW' rfl rfl rfl hf⟩

theorem said : Rows.LeadLaterSaid :=
  OpenClaim.holds_of_wide 4 Try.f4 rfl rfl rfl rfl rfl rfl rfl ⟨rfl, rfl, rfl, rfl, rfl⟩ rfl rfl rfl rfl rfl (by kernel_rfl) Try.func4 (by kernel_rfl)
    (of_decide_eq_true (by kernel_rfl)) (by unfold Func.isWrapper; first | (rw [if_pos (by decide +kernel)]; kernel_rfl) | (rw [if_neg (by decide +kernel)]; exact ⟨rfl, rfl⟩))
    (fun os started H enc _ => lifted os started H enc)
end Go.Proofs.Ytlajhnplkfiiiaa.leadLater
