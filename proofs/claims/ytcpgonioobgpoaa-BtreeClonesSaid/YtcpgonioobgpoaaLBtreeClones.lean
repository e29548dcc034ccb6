/- BtreeClones is true: a tree and its clone don't see each other. No condition. -/
import Derived.Test.YtcpgonioobgpoaaN18S
import Derived.Test.YtcpgonioobgpoaaN16S
import Derived.Test.YtcpgonioobgpoaaN7S
import Derived.Test.YtcpgonioobgpoaaSpeaks2
import Derived.Test.YtcpgonioobgpoaaGreat2
namespace Go.Proofs.Ytcpgonioobgpoaa.btreeClones
open Go.ChangeShapes Go.WideShapes Go.ChangeAt Go.RowKit

theorem low_bits (k : Int) (m : Nat) (hm : m ≤ 65535) : ∃ q : Nat, bits .and .i64 k (m : Int) = (q : Int) ∧ q ≤ m := by
  have e : (BitVec.ofInt 64 (m : Int)).toNat = m := by rw [BitVec.ofInt_natCast, BitVec.toNat_ofNat]; omega
  have hq : (BitVec.ofInt 64 k &&& BitVec.ofInt 64 (m : Int)).toNat ≤ m := by
    rw [BitVec.toNat_and]
    have := Nat.and_le_right (n := (BitVec.ofInt 64 k).toNat) (m := (BitVec.ofInt 64 (m : Int)).toNat)
    omega
  refine ⟨(BitVec.ofInt 64 k &&& BitVec.ofInt 64 (m : Int)).toNat, ?_, hq⟩
  show IntKind.i64.wrap (((BitVec.ofInt 64 k &&& BitVec.ofInt 64 (m : Int)).toNat : Nat) : Int) = _
  generalize (BitVec.ofInt 64 k &&& BitVec.ofInt 64 (m : Int)).toNat = q at *
  exact IntWalk.i64_in _ (by omega)
theorem putS_le {key : Bs} {v : Int} {xs : List ItS} (hu : UpI Op.bytesLess xs) : (putL Op.bytesLess key v xs).length ≤ xs.length + 1 := by
  by_cases h : ∃ u, (key, u) ∈ xs
  · obtain ⟨u, h⟩ := h
    rw [putL_len_yes linS hu h]
    exact Nat.le_succ _
  · rw [putL_len_no linS fun u hu => h ⟨u, hu⟩]
    exact Nat.le_refl _
/-- a tree made since world W, of at most k keys. -/
def Own (W : World) (g k : Nat) (wr : World) : Prop := ∃ O xs, TreeS wr g O xs ∧ (∀ b, O b → W.heap.size ≤ b) ∧ Fr NoBlk W wr ∧ xs.length ≤ k
/-- the clone since world V: its blocks are those that it had then, or new. -/
def Cl (V : World) (O0 : Nat → Prop) (g k : Nat) (wr : World) : Prop := ∃ O ys, TreeS wr g O ys ∧ Stp V wr O0 O ∧ ys.length ≤ k

set_option maxRecDepth 100000 in
set_option maxHeartbeats 2000000 in
theorem walk (W : World) (A : Option Addr) (c : Nat) (l : List Opn) (hr : Rd W A (opsc l)) (hx : ∀ x ∈ l, OpIn x) (hm : l.length ≤ maxLen) (A2 : Option Addr) (c2 : Nat) (l2 : List Opn) (hr2 : Rd W A2 (opsc l2)) (hx2 : ∀ x ∈ l2, OpIn x) (hm2 : l2.length ≤ maxLen) :
    Calls Try.prog 5 #[.slice A l.length c, .slice A2 l2.length c2] W fun e W' => e = .returned (.bool true) ∧ Fr NoBlk W W' := by
  have HS := Lib.hid (speaks_any W)
  have HR := Lib.hid hr
  have HX := Lib.hid hx
  have HM := Lib.hid hm
  have HR2 := Lib.hid hr2
  have HX2 := Lib.hid hx2
  have HM2 := Lib.hid hm2
  obtain ⟨n, hn⟩ : ∃ n, n = l.length := ⟨_, rfl⟩
  have HN := Lib.hid hn
  obtain ⟨n2, hn2⟩ : ∃ n, n = l2.length := ⟨_, rfl⟩
  have HN2 := Lib.hid hn2
  clear hr hx hm hr2 hx2 hm2
  go_enter Try.func5, Try.ntmps5
  go_wp2_with fail
  refine HS.out.mono ?_
  clear HS
  rintro e w1 ⟨rfl, hf1⟩
  have HF1 := Lib.hid hf1
  clear hf1
  go_wp2_with fail
  refine (great_any w1 A c l (HR.out.nofr HF1.out) HX.out HM.out).mono ?_
  rintro e w1' ⟨⟨b, rfl, hb⟩, rfl⟩
  cases b with
  | true =>
    go_wp2_with fail
    go_ret
    exact ⟨rfl, HF1.out⟩
  | false =>
    have HN3 : Hid (n ≤ 2000) := by show n ≤ 2000; rw [hn]; exact hb rfl
    clear hb
    go_wp2_with fail
    refine (great_any w1 A2 c2 l2 (HR2.out.nofr HF1.out) HX2.out HM2.out).mono ?_
    rintro e w1' ⟨⟨b, rfl, hb⟩, rfl⟩
    cases b with
    | true =>
      go_wp2_with fail
      go_ret
      exact ⟨rfl, HF1.out⟩
    | false =>
      have HN4 : Hid (n2 ≤ 2000) := by show n2 ≤ 2000; rw [hn2]; exact hb rfl
      have HNW := Lib.hid (newS_any w1)
      rw [← hn, ← hn2]
      clear hb hn hn2
      go_wp2_with fail
      refine HNW.out.mono ?_
      clear HNW
      rintro e w2 ⟨g, O, rfl, ht, hO, hf2⟩
      have HI0 : Hid (Own W g 0 w2) := ⟨O, [], ht, fun b hb => Nat.le_trans HF1.out.size (hO b hb), HF1.out.trans hf2, Nat.le_refl _⟩
      clear ht hO hf2
      go_wp2_with fail
      go_loopw [29] (fun i wr => ∃ k : Nat, i = .int .i64 (k : Int) ∧ k ≤ n ∧ Hid (Own W g k wr)) (fun i _ => (n - intOf i).toNat)
      case atStart => exact ⟨0, rfl, Nat.zero_le _, HI0.out⟩
      case round =>
        clear HI0
        obtain ⟨k, rfl, hk, HI⟩ := hrel
        obtain ⟨O1, xs, ht, hO, hf, hlen⟩ := HI.out
        by_cases hkn : k < n
        · have hki : (k : Int) < (n : Int) := by omega
          obtain ⟨x, hx⟩ : ∃ x, l[k]? = some x := ⟨_, List.getElem?_eq_getElem (by rw [← HN.out]; exact hkn)⟩
          obtain ⟨kind, key, v⟩ := x
          obtain ⟨b, o, hA, d0, d1, d2⟩ := (HR.out.nofr hf).opn hx
          subst hA
          dsimp only at d0 d1 d2
          have hwr : IntKind.i64.wrap ((k : Int) + 1) = (k : Int) + 1 := by have := HN3.out; exact IntWalk.i64_in _ (by omega)
          obtain ⟨w3, hw3⟩ : ∃ w3, w3 = wr.alloc (.cells #[.int .i64 kind, .string (bstr key), .int .i64 v] 32) := ⟨_, rfl⟩
          have hf3 : Fr NoBlk wr w3 := by rw [hw3]; exact (Fr.refl _ _).alloc _
          have HP := Lib.hid (treePutS_any w3 g O1 xs (ht.nofr hf3) (by have := HN3.out; omega) key v)
          have HUP := Lib.hid ht.up
          have HY := Lib.hid (And.intro hO (And.intro (hf.trans hf3) hlen))
          have HW3 := Lib.hid hw3
          clear hx ht hO hf hlen hf3 hw3 HI
          go_wp2_with fail
          rw [← HW3.out]
          refine HP.out.mono ?_
          clear HP HW3 d0 d1 d2
          rintro e w4 ⟨old, had, O4, rfl, hlk, ht4, hs4⟩
          have HI4 : Hid (Own W g (k + 1) w4) := by
            obtain ⟨hO, hf, hlen⟩ := HY.out
            obtain ⟨h1, h2⟩ := Stp.no hf hs4 hO
            exact ⟨O4, _, ht4, h2, h1, Nat.le_trans (putS_le HUP.out) (by omega)⟩
          clear hlk ht4 hs4 HY HUP
          go_wp2_with fail
          go_roundw
          case rel => exact ⟨k + 1, by push_cast; rfl, by omega, HI4.out⟩
          case measure => simp [intOf]; omega
        · have hki : ¬ (k : Int) < (n : Int) := by omega
          have HCL := Lib.hid (treeCloneS_any wr g O1 xs ht)
          have HT := Lib.hid ht
          have HF := Lib.hid hf
          have HLN : Hid (xs.length ≤ 2000) := by show _ ≤ _; have := HN3.out; omega
          clear ht hO hf hlen HI
          go_wp2_with fail
          refine HCL.out.mono ?_
          clear HCL
          rintro e w5 ⟨g2, O2, rfl, ht2, hO2, hf5⟩
          have HT2 := Lib.hid ht2
          have HO2 := Lib.hid hO2
          have HF5 := Lib.hid hf5
          have HK := Lib.hid (treeKeysS_any w5 g O1 xs (HT.out.nofr hf5) (by have := HLN.out; omega))
          clear ht2 hO2 hf5
          obtain ⟨m, hm⟩ : ∃ m, m = xs.length := ⟨_, rfl⟩
          have HMX := Lib.hid hm
          rw [← hm] at HK
          go_wp2_with fail
          refine HK.out.mono ?_
          clear HK
          rintro e w6 ⟨A6, c6, rfl, ho6, hf6⟩
          have HF6 := Lib.hid hf6
          have HV := Lib.hid (treeValuesS_any w6 g O1 xs (HT.out.nofr (HF5.out.trans hf6)) (by have := HLN.out; omega))
          rw [← hm] at HV
          have HO6 := Lib.hid ho6
          clear ho6 hf6 hm
          go_wp2_with fail
          refine HV.out.mono ?_
          clear HV
          rintro e V ⟨A7, c7, rfl, ho7, hf7⟩
          have HFV : Hid (Fr NoBlk w5 V) := HF6.out.trans hf7
          have HO7 := Lib.hid ho7
          have HR6 : Hid (Rd V A6 (xs.map keycS) ∧ ∀ b, ablk A6 b → ¬ O2 b) := ⟨(Rd.of_own HO6.out).nofr hf7, fun b hb e => by have := (HO6.out.lt b (ablk_own hb)).1; have := HT2.out.lt e; omega⟩
          have HR7 : Hid (Rd V A7 (xs.map valcS) ∧ ∀ b, ablk A7 b → ¬ O2 b) := ⟨Rd.of_own ho7, fun b hb e => by have := (ho7.lt b (ablk_own hb)).1; have := HT2.out.lt e; have := HF6.out.size; omega⟩
          have HTV : Hid (TreeS V g O1 xs ∧ ∀ b, O1 b → ¬ O2 b) := ⟨HT.out.nofr (HF5.out.trans HFV.out), fun b hb e => by have := HT.out.lt hb; have := HO2.out b e; omega⟩
          have HCI : Hid (Cl V O2 g2 (m + 0) V) := ⟨O2, xs, HT2.out.nofr HFV.out, ⟨Fr.refl _ _, fun b hb => .inl hb⟩, by rw [HMX.out]; exact Nat.le_refl _⟩
          have HWV : Hid (Fr NoBlk W V ∧ ∀ b, O2 b → W.heap.size ≤ b) := ⟨(HF.out.trans HF5.out).trans HFV.out, fun b hb => Nat.le_trans HF.out.size (HO2.out b hb)⟩
          have HM4 : Hid (m ≤ 2000) := by show m ≤ _; rw [HMX.out]; exact HLN.out
          clear ho7 hf7 HO6 HO7 HF6 HFV HT2
          go_wp2_with fail
          go_loopw [50] (fun i wr' => ∃ j : Nat, i = .int .i64 (j : Int) ∧ j ≤ n2 ∧ Hid (Cl V O2 g2 (m + j) wr')) (fun i _ => (n2 - intOf i).toNat)
          case atStart => exact ⟨0, rfl, Nat.zero_le _, HCI.out⟩
          case round =>
            clear HCI
            obtain ⟨j, rfl, hj, HI⟩ := hrel
            obtain ⟨Oc, ys, ht, hs, hlen⟩ := HI.out
            have HFW : Hid (Fr NoBlk W wr) := HWV.out.1.step hs.fr fun b hb e => by have := HWV.out.2 b e; omega
            by_cases hjn : j < n2
            · have hji : (j : Int) < (n2 : Int) := by omega
              obtain ⟨x, hx⟩ : ∃ x, l2[j]? = some x := ⟨_, List.getElem?_eq_getElem (by rw [← HN2.out]; exact hjn)⟩
              obtain ⟨kind, key, v⟩ := x
              obtain ⟨b, o, hA, d0, d1, d2⟩ := (HR2.out.nofr HFW.out).opn hx
              subst hA
              dsimp only at d0 d1 d2
              obtain ⟨q, hq, hq3⟩ := low_bits kind 1 (by omega)
              have hq' : bits .and .i64 kind 1 = (q : Int) := hq
              have hwr : IntKind.i64.wrap ((j : Int) + 1) = (j : Int) + 1 := by have := HN4.out; exact IntWalk.i64_in _ (by omega)
              obtain ⟨w3, hw3⟩ : ∃ w3, w3 = wr.alloc (.cells #[.int .i64 kind, .string (bstr key), .int .i64 v] 32) := ⟨_, rfl⟩
              have hf3 : Fr NoBlk wr w3 := by rw [hw3]; exact (Fr.refl _ _).alloc _
              have HUP := Lib.hid ht.up
              have HY := Lib.hid (And.intro hs (And.intro hf3 hlen))
              have HW3 := Lib.hid hw3
              have hk2 : q = 0 ∨ q = 1 := by omega
              have NEXT : Hid (∀ (w4 : World) (O4 : Nat → Prop) (zs : List ItS), TreeS w4 g2 O4 zs → Stp w3 w4 Oc O4 → zs.length ≤ ys.length + 1 → Cl V O2 g2 (m + (j + 1)) w4) := fun w4 O4 zs h1 h2 h3 =>
                ⟨O4, zs, h1, HY.out.1.trans (o1 := Oc) ⟨(HY.out.2.1.mono fun _ _ e => e.elim).trans h2.fr, fun b hb => by
                  rcases h2.new b hb with h | h
                  · exact .inl h
                  · have := HY.out.2.1.size; exact .inr (by omega)⟩, by have := HY.out.2.2; omega⟩
              rcases hk2 with rfl | rfl
              · have HP := Lib.hid (treeDelS_any w3 g2 Oc ys (ht.nofr hf3) (by have := HN4.out; have := HM4.out; omega) key)
                clear hx ht hs hlen hf3 hw3 hq HI
                go_wp2_with fail
                rw [← HW3.out]
                refine HP.out.mono ?_
                clear HP HW3 d0 d1 d2
                rintro e w4 ⟨old, had, O4, rfl, hlk, ht4, hs4⟩
                have HI4 := Lib.hid (NEXT.out _ _ _ ht4 hs4 (Nat.le_succ_of_le (List.length_filter_le _ _)))
                clear hlk ht4 hs4 HY HUP NEXT
                go_wp2_with fail
                go_roundw
                case rel => exact ⟨j + 1, by push_cast; rfl, by omega, HI4.out⟩
                case measure => simp [intOf]; omega
              · have HP := Lib.hid (treePutS_any w3 g2 Oc ys (ht.nofr hf3) (by have := HN4.out; have := HM4.out; omega) key v)
                clear hx ht hs hlen hf3 hw3 hq HI
                go_wp2_with fail
                rw [← HW3.out]
                refine HP.out.mono ?_
                clear HP HW3 d0 d1 d2
                rintro e w4 ⟨old, had, O4, rfl, hlk, ht4, hs4⟩
                have HI4 := Lib.hid (NEXT.out _ _ _ ht4 hs4 (putS_le HUP.out))
                clear hlk ht4 hs4 HY HUP NEXT
                go_wp2_with fail
                go_roundw
                case rel => exact ⟨j + 1, by push_cast; rfl, by omega, HI4.out⟩
                case measure => simp [intOf]; omega
            · have hji : ¬ (j : Int) < (n2 : Int) := by omega
              have HTT : Hid (TreeS wr g O1 xs) := HTV.out.1.fr hs.fr fun b hb => HTV.out.2 b hb
              have HRA : Hid (Rd wr A6 (xs.map keycS)) := HR6.out.1.fr hs.fr fun b hb => HR6.out.2 b hb
              have HRB : Hid (Rd wr A7 (xs.map valcS)) := HR7.out.1.fr hs.fr fun b hb => HR7.out.2 b hb
              have HK := Lib.hid (treeKeysS_any wr g O1 xs HTT.out (by have := HLN.out; omega))
              rw [← HMX.out] at HK
              clear ht hs hlen HI
              go_wp2_with fail
              refine HK.out.mono ?_
              clear HK
              rintro e w8 ⟨A8, c8, rfl, ho8, hf8⟩
              have HF8 := Lib.hid hf8
              have HRC : Hid (Rd w8 A8 (xs.map keycS)) := Rd.of_own ho8
              have HV := Lib.hid (treeValuesS_any w8 g O1 xs (HTT.out.nofr hf8) (by have := HLN.out; omega))
              rw [← HMX.out] at HV
              clear ho8 hf8
              go_wp2_with fail
              refine HV.out.mono ?_
              clear HV
              rintro e w9 ⟨A9, c9, rfl, ho9, hf9⟩
              have HF9 := Lib.hid (HF8.out.trans hf9)
              have HRD : Hid (Rd w9 A9 (xs.map valcS)) := Rd.of_own ho9
              have HRC9 := Lib.hid (HRC.out.nofr hf9)
              have HRA9 := Lib.hid (HRA.out.nofr HF9.out)
              have HRB9 := Lib.hid (HRB.out.nofr HF9.out)
              have HFW9 := Lib.hid (HFW.out.trans HF9.out)
              clear ho9 hf9
              go_wp2_with fail
              go_loopw [87] (fun i wr' => ∃ t : Nat, i = .int .i64 (t : Int) ∧ t ≤ m ∧ Hid (Fr NoBlk w9 wr')) (fun i _ => (m - intOf i).toNat)
              case atStart => exact ⟨0, rfl, Nat.zero_le _, Fr.refl _ _⟩
              case round =>
                obtain ⟨t, rfl, ht, HT9⟩ := hrel
                by_cases htm : t < m
                · have hti : (t : Int) < (m : Int) := by omega
                  obtain ⟨x, hx⟩ : ∃ x, xs[t]? = some x := ⟨_, List.getElem?_eq_getElem (by rw [← HMX.out]; exact htm)⟩
                  obtain ⟨xk, xv⟩ := x
                  obtain ⟨ba, oa, hA, p1⟩ := (HRA9.out.nofr HT9.out).at_ (k := t) (v := .string (bstr xk)) (by rw [List.getElem?_map, hx]; rfl)
                  obtain ⟨bb, ob, hB, p2⟩ := (HRB9.out.nofr HT9.out).at_ (k := t) (v := .int .i64 xv) (by rw [List.getElem?_map, hx]; rfl)
                  obtain ⟨bc, oc, hC, p3⟩ := (HRC9.out.nofr HT9.out).at_ (k := t) (v := .string (bstr xk)) (by rw [List.getElem?_map, hx]; rfl)
                  obtain ⟨bd, od, hD, p4⟩ := (HRD.out.nofr HT9.out).at_ (k := t) (v := .int .i64 xv) (by rw [List.getElem?_map, hx]; rfl)
                  subst hA hB hC hD
                  have e4 := bstr_toList xk
                  have hwr : IntKind.i64.wrap ((t : Int) + 1) = (t : Int) + 1 := by have := HM4.out; exact IntWalk.i64_in _ (by omega)
                  clear hx
                  go_wp2_with fail
                  go_quiet (fail)
                  go_wp2_with fail
                  go_roundw
                  case rel => exact ⟨t + 1, by push_cast; rfl, by omega, HT9.out.drewN _⟩
                  case measure => simp [intOf]; omega
                · have hti : ¬ (t : Int) < (m : Int) := by omega
                  go_wp2_with fail
                  go_ret
                  exact ⟨rfl, HFW9.out.trans HT9.out⟩

theorem paramsOk : ∀ t ∈ Try.f5.params.toList, Try.prog.readableRec t = true ∧ t < Try.prog.types.size := fun t ht => by
  have h := List.all_eq_true.1 (show (Try.f5.params.toList.all fun t => Try.prog.readableRec t && decide (t < Try.prog.types.size)) = true by kernel_rfl) t ht
  simpa using h

set_option maxRecDepth 100000 in
theorem lifted (os : Os) (started : os.Started) (H : Type) (enc : TypeId × Value → H) :
    ReturnsInHanded {} Try.checked os 5 .any (Rows.btreeClonesSpec.pre6 enc Try.prog Try.f5 Rows.btreeClonesRow.domain false) (Rows.btreeClonesSpec.post enc Try.prog Try.f5 false true false false) := by
  refine returnsInHanded_of_change (C := Try.checked) own started (by kernel_rfl) Try.func5
    (ChangeSpec.witness6 (enc := enc) (C := Try.checked) false ⟨#[], #[.slice none 0 0, .slice none 0 0], []⟩ 8 (by kernel_rfl) (by kernel_rfl) (by kernel_rfl) (by kernel_rfl)) ?_
  intro W base args ds gs before hval0 hW _ _
  have hval : ∀ (j : Nat) t v, Try.f5.params[j]? = some t → args[j]? = some v → Value.okWide Try.prog W .any base t v := hval0
  have hW' := hW
  obtain ⟨p, q, hA0, hV, rfl, _, _⟩ := hW
  have hA : DataW.TrodAll enc Try.prog W 0 (fun _ => true) true Try.f5.params.toList args.toList ds p := hA0
  rw [Try.params5] at hA hval
  obtain ⟨v0, vs0, d0, ds0, p0, q0, hargs, rfl, rfl, h0, r0⟩ := trodAll_cons hA
  obtain ⟨v1, vs1, d1, ds1, p1, q1, rfl, rfl, rfl, h1, r1⟩ := trodAll_cons r0
  obtain ⟨rfl, rfl, rfl⟩ := trodAll_nil r1
  obtain rfl : args = #[v0, v1] := by cases args; simp_all
  obtain ⟨rfl, rfl⟩ := trodVars_none hV
  obtain ⟨A, c, l, rfl, hr, hx, hn, hm⟩ := open_opns (hval 0 _ v0 rfl rfl) h0
  obtain ⟨A2, c2, l2, rfl, hr2, hx2, hn2, hm2⟩ := open_opns (hval 1 _ v1 rfl rfl) h1
  have walk := walk W A c l hr hx (Nat.le_trans hn hm) A2 c2 l2 hr2 hx2 (Nat.le_trans hn2 hm2)
  clear hA0 hval0
  refine walk.mono fun e W' ⟨he, hf⟩ => ?_
  subst he
  exact ⟨_, rfl, law_post laidOut paramsOk rfl rfl Try.underlying4 hW' rfl rfl rfl hf⟩

theorem said : Rows.BtreeClonesSaid :=
  OpenClaim.holds_of_wide 5 Try.f5 rfl rfl rfl rfl rfl rfl rfl ⟨rfl, rfl, rfl, rfl, rfl⟩ rfl rfl rfl rfl rfl (by kernel_rfl) Try.func5 (by kernel_rfl)
    (of_decide_eq_true (by kernel_rfl)) (by unfold Func.isWrapper; first | (rw [if_pos (by decide +kernel)]; kernel_rfl) | (rw [if_neg (by decide +kernel)]; exact ⟨rfl, rfl⟩))
    (fun os started H enc _ => lifted os started H enc)
end Go.Proofs.Ytcpgonioobgpoaa.btreeClones
