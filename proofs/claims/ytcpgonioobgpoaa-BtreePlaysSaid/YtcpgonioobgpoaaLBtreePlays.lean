/- BtreePlays is true: every call of any script on a tree answers exactly as an ordered list does. No condition. -/
import Derived.Test.YtcpgonioobgpoaaTwo
import Derived.Test.YtcpgonioobgpoaaSame2
import Derived.Test.YtcpgonioobgpoaaGreat2
namespace Go.Proofs.Ytcpgonioobgpoaa.btreePlays
open Go.ChangeShapes Go.WideShapes Go.ChangeAt Go.RowKit

theorem low_bits (k : Int) (m : Nat) (hm : m ≤ 65535) : ∃ q : Nat, bits .and .i64 k (m : Int) = (q : Int) ∧ q ≤ m := by
  have e : (BitVec.ofInt 64 (m : Int)).toNat = m := by rw [BitVec.ofInt_natCast, BitVec.toNat_ofNat]; omega
  have hq : (BitVec.ofInt 64 k &&& BitVec.ofInt 64 (m : Int)).toNat ≤ m := by
    rw [BitVec.toNat_and]
    have := Nat.and_le_right (n := (BitVec.ofInt 64 k).toNat) (m := (BitVec.ofInt 64 (m : Int)).toNat)
    omega
  refine ⟨(BitVec.ofInt 64 k &&& BitVec.ofInt 64 (m : Int)).toNat, ?_, hq⟩
  show IntKind.i64.wrap (((BitVec.ofInt 64 k &&& BitVec.ofInt 64 (m : Int)).toNat : Nat) : Int) = _
  generalize (BitVec.ofInt 64 k &&& BitVec.ofInt 64 (m : Int)).toNat = q at *
  exact IntWalk.i64_in _ (by omega)
theorem same_two {W wr : World} {K : Nat → Prop} {g gm : Nat} {xs : List ItS} (h : TwoK W K g gm xs xs wr) (hn : xs.length ≤ 99999) :
    Calls Try.prog 20 #[.pointer (some ⟨g, 0, none⟩), .pointer (some ⟨gm, 0, none⟩)] wr fun e w' => e = .returned (.bool true) ∧ TwoK W K g gm xs xs w' := by
  have h0 := h
  obtain ⟨O, A, c, h⟩ := h
  refine (same_any wr W.heap.size g gm O A c xs h.t h.r (by omega)).mono ?_
  rintro e w' ⟨rfl, hf⟩
  exact ⟨rfl, h0.nofr hf⟩

set_option maxRecDepth 100000 in
set_option maxHeartbeats 2000000 in
theorem walk (W : World) (A : Option Addr) (c : Nat) (l : List Opn) (hr : Rd W A (opsc l)) (hx : ∀ x ∈ l, OpIn x) (hm : l.length ≤ maxLen) :
    Calls Try.prog 3 #[.slice A l.length c] W fun e W' => e = .returned (.bool true) ∧ Fr NoBlk W W' := by
  have HS := Lib.hid (speaks_any W)
  have HR := Lib.hid hr
  have HX := Lib.hid hx
  have HM := Lib.hid hm
  obtain ⟨n, hn⟩ : ∃ n, n = l.length := ⟨_, rfl⟩
  have HN := Lib.hid hn
  clear hr hx hm
  go_enter Try.func3, Try.ntmps3
  go_wp2_with fail
  refine HS.out.mono ?_
  clear HS
  rintro e w1 ⟨rfl, hf1⟩
  have HF1 := Lib.hid hf1
  clear hf1
  go_wp2_with fail
  refine (great_any w1 A c l (HR.out.nofr HF1.out) HX.out HM.out).mono ?_
  rintro e w1' ⟨⟨b, rfl, hb⟩, rfl⟩
  cases b with
  | true =>
    go_wp2_with fail
    go_ret
    exact ⟨rfl, HF1.out⟩
  | false =>
    have HN2 : Hid (n ≤ 2000) := by show n ≤ 2000; rw [hn]; exact hb rfl
    have HNW := Lib.hid (newS_any w1)
    rw [← hn]
    clear hb hn
    go_wp2_with fail
    refine HNW.out.mono ?_
    clear HNW
    rintro e w2 ⟨g, O, rfl, ht, hO, hf2⟩
    obtain ⟨gm, hgm⟩ : ∃ gm, gm = w2.heap.size := ⟨_, rfl⟩
    have HI0 : Hid (TwoK W (fun _ => False) g gm [] [] (w2.alloc (.cells #[.slice none 0 0] 30))) := by
      show TwoK _ _ _ _ _ _ _
      rw [hgm]
      exact TwoK.new HF1.out ht hO hf2
    have HGM := Lib.hid hgm
    clear ht hO hf2 hgm
    go_wp2_with fail
    rw [← HGM.out]
    clear HGM
    go_loopw [26] (fun i wr => ∃ (k : Nat) (xs : List ItS), i = .int .i64 (k : Int) ∧ k ≤ n ∧ Hid (xs.length ≤ k ∧ TwoK W (fun _ => False) g gm xs xs wr)) (fun i _ => (n - intOf i).toNat)
    case atStart => exact ⟨0, [], rfl, Nat.zero_le _, Nat.le_refl _, HI0.out⟩
    case round =>
      clear HI0
      obtain ⟨k, xs, rfl, hk, HI⟩ := hrel
      by_cases hkn : k < n
      · have hki : (k : Int) < (n : Int) := by omega
        obtain ⟨x, hx⟩ : ∃ x, l[k]? = some x := ⟨_, List.getElem?_eq_getElem (by rw [← HN.out]; exact hkn)⟩
        obtain ⟨kind, key, v⟩ := x
        obtain ⟨b, o, hA, d0, d1, d2⟩ := (HR.out.nofr HI.out.2.fr).opn hx
        subst hA
        dsimp only at d0 d1 d2
        obtain ⟨q, hq, hq3⟩ := low_bits kind 3 (by omega)
        have hq' : bits .and .i64 kind 3 = (q : Int) := hq
        have HL : Hid (xs.length ≤ 99990) := by show _ ≤ _; have := HI.out.1; have := HN2.out; omega
        have HL1 : Hid (xs.length ≤ k) := HI.out.1
        have hwr : IntKind.i64.wrap ((k : Int) + 1) = (k : Int) + 1 := by have := HN2.out; exact IntWalk.i64_in _ (by omega)
        obtain ⟨ob, hob⟩ : ∃ ob, ob = wr.heap.size := ⟨_, rfl⟩
        obtain ⟨w3, hw3⟩ : ∃ w3, w3 = wr.alloc (.cells #[.int .i64 kind, .string (bstr key), .int .i64 v] 32) := ⟨_, rfl⟩
        have HB3 : Hid (Bk w3 ob 32 #[.int .i64 kind, .string (bstr key), .int .i64 v]) := by show Bk _ _ _ _; rw [hw3, hob]; exact Bk.new _ _ _
        have H3 : Hid (TwoK W (fun b => b = ob) g gm xs xs w3) := by show TwoK _ _ _ _ _ _ _; rw [hw3, hob]; exact HI.out.2.made _
        have HW3 := Lib.hid hw3
        have HOB := Lib.hid hob
        have e0 : w3.cell? ⟨ob, 0, none⟩ = some (.int .i64 kind) := HB3.out.cell 0
        have e1 : w3.cell? ⟨ob, 1, none⟩ = some (.string (bstr key)) := HB3.out.cell 1
        have e2 : w3.cell? ⟨ob, 2, none⟩ = some (.int .i64 v) := HB3.out.cell 2
        clear hx hq hw3 hob HI
        have hk3 : q = 0 ∨ q = 1 ∨ q = 2 ∨ q = 3 := by omega
        have HUP := Lib.hid H3.out.up
        rcases hk3 with rfl | rfl | rfl | rfl
        · have HC := Lib.hid (two_del H3.out (by have := HL.out; omega) key)
          clear e0 e1 e2
          go_wp2_with fail
          rw [← HW3.out, ← HOB.out]
          clear HW3 HOB
          refine HC.out.mono ?_
          clear HC
          rintro e w4 ⟨v4, b4, rfl, hl4, h4, hk4⟩
          have HB4 := Lib.hid (HB3.out.kept hk4 rfl)
          have HL4 := Lib.hid hl4
          have H4 := Lib.hid h4
          have e1 : w4.cell? ⟨ob, 1, none⟩ = some (.string (bstr key)) := HB4.out.cell 1
          have e2 : w4.cell? ⟨ob, 2, none⟩ = some (.int .i64 v) := HB4.out.cell 2
          have HC := Lib.hid (two_rdel H4.out (by have := HL.out; omega) key)
          clear hl4 h4 hk4 HB3 H3
          go_wp2_with fail
          refine HC.out.mono ?_
          clear HC e1 e2
          rintro e w5 ⟨v5, b5, rfl, hl5, h5, hk5⟩
          have HB5 := Lib.hid (HB4.out.kept hk5 rfl)
          have H5 := Lib.hid h5
          obtain ⟨rfl, rfl⟩ := HL4.out.one linS HUP.out hl5
          have e1 : w5.cell? ⟨ob, 1, none⟩ = some (.string (bstr key)) := HB5.out.cell 1
          have HZ : Hid ((delL Op.bytesLess key xs).length ≤ k + 1) := Nat.le_trans delL_le (Nat.le_succ_of_le HL1.out)
          obtain ⟨ys, hys⟩ : ∃ ys, ys = delL Op.bytesLess key xs := ⟨_, rfl⟩
          rw [← hys] at H5 HZ
          clear hl5 h5 hk5 HB4 H4 HL4 hys
          have HLY : Hid (ys.length ≤ 99990) := by show _ ≤ _; have := HZ.out; have := HN2.out; omega
          have HC := Lib.hid (two_first H5.out key)
          go_wp2_with fail
          refine HC.out.mono ?_
          clear HC e1
          rintro e w6 ⟨k6, b6, rfl, hl6, h6, hk6⟩
          have HB6 := Lib.hid (HB5.out.kept hk6 rfl)
          have H6 := Lib.hid h6
          have HL6 := Lib.hid hl6
          have e1 : w6.cell? ⟨ob, 1, none⟩ = some (.string (bstr key)) := HB6.out.cell 1
          have HC := Lib.hid (two_rfirst H6.out (by have := HLY.out; omega) key)
          clear hl6 h6 hk6 HB5 H5
          go_wp2_with fail
          refine HC.out.mono ?_
          clear HC e1
          rintro e w7 ⟨k7, b7, rfl, hl7, h7, hk7⟩
          obtain ⟨rfl, rfl⟩ := HL6.out.one hl7
          have H7 := Lib.hid h7
          have HC := Lib.hid (same_two H7.out (by have := HLY.out; omega))
          have e4 := bstr_toList k6
          clear hl7 h7 hk7 HB6 H6 HL6
          go_wp2_with fail
          refine HC.out.mono ?_
          clear HC
          rintro e w8 ⟨rfl, h8⟩
          have H8 := Lib.hid h8.free
          clear h8
          go_wp2_with fail
          go_roundw
          case rel => exact ⟨k + 1, ys, by push_cast; rfl, by omega, HZ.out, H8.out⟩
          case measure => simp [intOf]; omega
        · have HC := Lib.hid (two_get H3.out key)
          clear e0 e1 e2
          go_wp2_with fail
          rw [← HW3.out, ← HOB.out]
          clear HW3 HOB
          refine HC.out.mono ?_
          clear HC
          rintro e w4 ⟨v4, b4, rfl, hl4, h4, hk4⟩
          have HB4 := Lib.hid (HB3.out.kept hk4 rfl)
          have HL4 := Lib.hid hl4
          have H4 := Lib.hid h4
          have e1 : w4.cell? ⟨ob, 1, none⟩ = some (.string (bstr key)) := HB4.out.cell 1
          have e2 : w4.cell? ⟨ob, 2, none⟩ = some (.int .i64 v) := HB4.out.cell 2
          have HC := Lib.hid (two_rget H4.out (by have := HL.out; omega) key)
          clear hl4 h4 hk4 HB3 H3
          go_wp2_with fail
          refine HC.out.mono ?_
          clear HC e1 e2
          rintro e w5 ⟨v5, b5, rfl, hl5, h5, hk5⟩
          have HB5 := Lib.hid (HB4.out.kept hk5 rfl)
          have H5 := Lib.hid h5
          obtain ⟨rfl, rfl⟩ := HL4.out.one linS HUP.out hl5
          have e1 : w5.cell? ⟨ob, 1, none⟩ = some (.string (bstr key)) := HB5.out.cell 1
          have HZ : Hid ((xs).length ≤ k + 1) := Nat.le_succ_of_le HL1.out
          obtain ⟨ys, hys⟩ : ∃ ys, ys = xs := ⟨_, rfl⟩
          rw [← hys] at H5 HZ
          clear hl5 h5 hk5 HB4 H4 HL4 hys
          have HLY : Hid (ys.length ≤ 99990) := by show _ ≤ _; have := HZ.out; have := HN2.out; omega
          have HC := Lib.hid (two_first H5.out key)
          go_wp2_with fail
          refine HC.out.mono ?_
          clear HC e1
          rintro e w6 ⟨k6, b6, rfl, hl6, h6, hk6⟩
          have HB6 := Lib.hid (HB5.out.kept hk6 rfl)
          have H6 := Lib.hid h6
          have HL6 := Lib.hid hl6
          have e1 : w6.cell? ⟨ob, 1, none⟩ = some (.string (bstr key)) := HB6.out.cell 1
          have HC := Lib.hid (two_rfirst H6.out (by have := HLY.out; omega) key)
          clear hl6 h6 hk6 HB5 H5
          go_wp2_with fail
          refine HC.out.mono ?_
          clear HC e1
          rintro e w7 ⟨k7, b7, rfl, hl7, h7, hk7⟩
          obtain ⟨rfl, rfl⟩ := HL6.out.one hl7
          have H7 := Lib.hid h7
          have HC := Lib.hid (same_two H7.out (by have := HLY.out; omega))
          have e4 := bstr_toList k6
          clear hl7 h7 hk7 HB6 H6 HL6
          go_wp2_with fail
          refine HC.out.mono ?_
          clear HC
          rintro e w8 ⟨rfl, h8⟩
          have H8 := Lib.hid h8.free
          clear h8
          go_wp2_with fail
          go_roundw
          case rel => exact ⟨k + 1, ys, by push_cast; rfl, by omega, HZ.out, H8.out⟩
          case measure => simp [intOf]; omega
        · have HC := Lib.hid (two_put H3.out (by have := HL.out; omega) key v)
          clear e0 e1 e2
          go_wp2_with fail
          rw [← HW3.out, ← HOB.out]
          clear HW3 HOB
          refine HC.out.mono ?_
          clear HC
          rintro e w4 ⟨v4, b4, rfl, hl4, h4, hk4⟩
          have HB4 := Lib.hid (HB3.out.kept hk4 rfl)
          have HL4 := Lib.hid hl4
          have H4 := Lib.hid h4
          have e1 : w4.cell? ⟨ob, 1, none⟩ = some (.string (bstr key)) := HB4.out.cell 1
          have e2 : w4.cell? ⟨ob, 2, none⟩ = some (.int .i64 v) := HB4.out.cell 2
          have HC := Lib.hid (two_rput H4.out (by have := HL.out; omega) key v)
          clear hl4 h4 hk4 HB3 H3
          go_wp2_with fail
          refine HC.out.mono ?_
          clear HC e1 e2
          rintro e w5 ⟨v5, b5, rfl, hl5, h5, hk5⟩
          have HB5 := Lib.hid (HB4.out.kept hk5 rfl)
          have H5 := Lib.hid h5
          obtain ⟨rfl, rfl⟩ := HL4.out.one linS HUP.out hl5
          have e1 : w5.cell? ⟨ob, 1, none⟩ = some (.string (bstr key)) := HB5.out.cell 1
          have HZ : Hid ((putL Op.bytesLess key v xs).length ≤ k + 1) := Nat.le_trans (putL_le linS HUP.out) (Nat.succ_le_succ HL1.out)
          obtain ⟨ys, hys⟩ : ∃ ys, ys = putL Op.bytesLess key v xs := ⟨_, rfl⟩
          rw [← hys] at H5 HZ
          clear hl5 h5 hk5 HB4 H4 HL4 hys
          have HLY : Hid (ys.length ≤ 99990) := by show _ ≤ _; have := HZ.out; have := HN2.out; omega
          have HC := Lib.hid (two_first H5.out key)
          go_wp2_with fail
          refine HC.out.mono ?_
          clear HC e1
          rintro e w6 ⟨k6, b6, rfl, hl6, h6, hk6⟩
          have HB6 := Lib.hid (HB5.out.kept hk6 rfl)
          have H6 := Lib.hid h6
          have HL6 := Lib.hid hl6
          have e1 : w6.cell? ⟨ob, 1, none⟩ = some (.string (bstr key)) := HB6.out.cell 1
          have HC := Lib.hid (two_rfirst H6.out (by have := HLY.out; omega) key)
          clear hl6 h6 hk6 HB5 H5
          go_wp2_with fail
          refine HC.out.mono ?_
          clear HC e1
          rintro e w7 ⟨k7, b7, rfl, hl7, h7, hk7⟩
          obtain ⟨rfl, rfl⟩ := HL6.out.one hl7
          have H7 := Lib.hid h7
          have HC := Lib.hid (same_two H7.out (by have := HLY.out; omega))
          have e4 := bstr_toList k6
          clear hl7 h7 hk7 HB6 H6 HL6
          go_wp2_with fail
          refine HC.out.mono ?_
          clear HC
          rintro e w8 ⟨rfl, h8⟩
          have H8 := Lib.hid h8.free
          clear h8
          go_wp2_with fail
          go_roundw
          case rel => exact ⟨k + 1, ys, by push_cast; rfl, by omega, HZ.out, H8.out⟩
          case measure => simp [intOf]; omega
        · have HC := Lib.hid (two_put H3.out (by have := HL.out; omega) key v)
          clear e0 e1 e2
          go_wp2_with fail
          rw [← HW3.out, ← HOB.out]
          clear HW3 HOB
          refine HC.out.mono ?_
          clear HC
          rintro e w4 ⟨v4, b4, rfl, hl4, h4, hk4⟩
          have HB4 := Lib.hid (HB3.out.kept hk4 rfl)
          have HL4 := Lib.hid hl4
          have H4 := Lib.hid h4
          have e1 : w4.cell? ⟨ob, 1, none⟩ = some (.string (bstr key)) := HB4.out.cell 1
          have e2 : w4.cell? ⟨ob, 2, none⟩ = some (.int .i64 v) := HB4.out.cell 2
          have HC := Lib.hid (two_rput H4.out (by have := HL.out; omega) key v)
          clear hl4 h4 hk4 HB3 H3
          go_wp2_with fail
          refine HC.out.mono ?_
          clear HC e1 e2
          rintro e w5 ⟨v5, b5, rfl, hl5, h5, hk5⟩
          have HB5 := Lib.hid (HB4.out.kept hk5 rfl)
          have H5 := Lib.hid h5
          obtain ⟨rfl, rfl⟩ := HL4.out.one linS HUP.out hl5
          have e1 : w5.cell? ⟨ob, 1, none⟩ = some (.string (bstr key)) := HB5.out.cell 1
          have HZ : Hid ((putL Op.bytesLess key v xs).length ≤ k + 1) := Nat.le_trans (putL_le linS HUP.out) (Nat.succ_le_succ HL1.out)
          obtain ⟨ys, hys⟩ : ∃ ys, ys = putL Op.bytesLess key v xs := ⟨_, rfl⟩
          rw [← hys] at H5 HZ
          clear hl5 h5 hk5 HB4 H4 HL4 hys
          have HLY : Hid (ys.length ≤ 99990) := by show _ ≤ _; have := HZ.out; have := HN2.out; omega
          have HC := Lib.hid (two_first H5.out key)
          go_wp2_with fail
          refine HC.out.mono ?_
          clear HC e1
          rintro e w6 ⟨k6, b6, rfl, hl6, h6, hk6⟩
          have HB6 := Lib.hid (HB5.out.kept hk6 rfl)
          have H6 := Lib.hid h6
          have HL6 := Lib.hid hl6
          have e1 : w6.cell? ⟨ob, 1, none⟩ = some (.string (bstr key)) := HB6.out.cell 1
          have HC := Lib.hid (two_rfirst H6.out (by have := HLY.out; omega) key)
          clear hl6 h6 hk6 HB5 H5
          go_wp2_with fail
          refine HC.out.mono ?_
          clear HC e1
          rintro e w7 ⟨k7, b7, rfl, hl7, h7, hk7⟩
          obtain ⟨rfl, rfl⟩ := HL6.out.one hl7
          have H7 := Lib.hid h7
          have HC := Lib.hid (same_two H7.out (by have := HLY.out; omega))
          have e4 := bstr_toList k6
          clear hl7 h7 hk7 HB6 H6 HL6
          go_wp2_with fail
          refine HC.out.mono ?_
          clear HC
          rintro e w8 ⟨rfl, h8⟩
          have H8 := Lib.hid h8.free
          clear h8
          go_wp2_with fail
          go_roundw
          case rel => exact ⟨k + 1, ys, by push_cast; rfl, by omega, HZ.out, H8.out⟩
          case measure => simp [intOf]; omega
      · have hki : ¬ (k : Int) < (n : Int) := by omega
        go_wp2_with fail
        go_ret
        exact ⟨rfl, HI.out.2.fr⟩

theorem paramsOk : ∀ t ∈ Try.f3.params.toList, Try.prog.readableRec t = true ∧ t < Try.prog.types.size := fun t ht => by
  have h := List.all_eq_true.1 (show (Try.f3.params.toList.all fun t => Try.prog.readableRec t && decide (t < Try.prog.types.size)) = true by kernel_rfl) t ht
  simpa using h

set_option maxRecDepth 100000 in
theorem lifted (os : Os) (started : os.Started) (H : Type) (enc : TypeId × Value → H) :
    ReturnsInHanded {} Try.checked os 3 .any (Rows.btreePlaysSpec.pre6 enc Try.prog Try.f3 Rows.btreePlaysRow.domain false) (Rows.btreePlaysSpec.post enc Try.prog Try.f3 false true false false) := by
  refine returnsInHanded_of_change (C := Try.checked) own started (by kernel_rfl) Try.func3
    (ChangeSpec.witness6 (enc := enc) (C := Try.checked) false ⟨#[], #[.slice none 0 0], []⟩ 8 (by kernel_rfl) (by kernel_rfl) (by kernel_rfl) (by kernel_rfl)) ?_
  intro W base args ds gs before hval0 hW _ _
  have hval : ∀ (j : Nat) t v, Try.f3.params[j]? = some t → args[j]? = some v → Value.okWide Try.prog W .any base t v := hval0
  have hW' := hW
  obtain ⟨p, q, hA0, hV, rfl, _, _⟩ := hW
  have hA : DataW.TrodAll enc Try.prog W 0 (fun _ => true) true Try.f3.params.toList args.toList ds p := hA0
  rw [Try.params3] at hA hval
  obtain ⟨v0, vs0, d0, ds0, p0, q0, hargs, rfl, rfl, h0, r0⟩ := trodAll_cons hA
  obtain ⟨rfl, rfl, rfl⟩ := trodAll_nil r0
  obtain rfl : args = #[v0] := by cases args; simp_all
  obtain ⟨rfl, rfl⟩ := trodVars_none hV
  obtain ⟨A, c, l, rfl, hr, hx, hn, hm⟩ := open_opns (hval 0 _ v0 rfl rfl) h0
  have walk := walk W A c l hr hx (Nat.le_trans hn hm)
  clear hA0 hval0
  refine walk.mono fun e W' ⟨he, hf⟩ => ?_
  subst he
  exact ⟨_, rfl, law_post laidOut paramsOk rfl rfl Try.underlying4 hW' rfl rfl rfl hf⟩

theorem said : Rows.BtreePlaysSaid :=
  OpenClaim.holds_of_wide 3 Try.f3 rfl rfl rfl rfl rfl rfl rfl ⟨rfl, rfl, rfl, rfl, rfl⟩ rfl rfl rfl rfl rfl (by kernel_rfl) Try.func3 (by kernel_rfl)
    (of_decide_eq_true (by kernel_rfl)) (by unfold Func.isWrapper; first | (rw [if_pos (by decide +kernel)]; kernel_rfl) | (rw [if_neg (by decide +kernel)]; exact ⟨rfl, rfl⟩))
    (fun os started H enc _ => lifted os started H enc)
end Go.Proofs.Ytcpgonioobgpoaa.btreePlays
