/- AcceptMajorities is true: what more than half of the voters have taken, more than half of them tell at least once. No condition. -/
import Derived.Test.YteeeokofampdeaaMaj
import Derived.Deep.LoopGhost
import Derived.IntWalk
namespace Go.Proofs.Yteeeokofampdeaa.acceptMajorities
open Go.ChangeShapes Go.WideShapes Go.ChangeAt Go.RowKit

theorem low_bits (k : Int) (m : Nat) (hm : m ≤ 65535) : ∃ q : Nat, bits .and .i64 k (m : Int) = (q : Int) ∧ q ≤ m := by
  have e : (BitVec.ofInt 64 (m : Int)).toNat = m := by rw [BitVec.ofInt_natCast, BitVec.toNat_ofNat]; omega
  have hq : (BitVec.ofInt 64 k &&& BitVec.ofInt 64 (m : Int)).toNat ≤ m := by
    rw [BitVec.toNat_and]
    have := Nat.and_le_right (n := (BitVec.ofInt 64 k).toNat) (m := (BitVec.ofInt 64 (m : Int)).toNat)
    omega
  refine ⟨(BitVec.ofInt 64 k &&& BitVec.ofInt 64 (m : Int)).toNat, ?_, hq⟩
  show IntKind.i64.wrap (((BitVec.ofInt 64 k &&& BitVec.ofInt 64 (m : Int)).toNat : Nat) : Int) = _
  generalize (BitVec.ofInt 64 k &&& BitVec.ofInt 64 (m : Int)).toNat = q at *
  exact IntWalk.i64_in _ (by omega)
theorem low1 (k : Int) : bits .and .u64 k 1 = 0 ∨ bits .and .u64 k 1 = 1 := by
  have e : (BitVec.ofInt 64 (1 : Int)).toNat = 1 := by decide
  have hq : (BitVec.ofInt 64 k &&& BitVec.ofInt 64 (1 : Int)).toNat ≤ 1 := by
    rw [BitVec.toNat_and]
    have := Nat.and_le_right (n := (BitVec.ofInt 64 k).toNat) (m := (BitVec.ofInt 64 (1 : Int)).toNat)
    omega
  have h : bits .and .u64 k 1 = (((BitVec.ofInt 64 k &&& BitVec.ofInt 64 (1 : Int)).toNat : Nat) : Int) := by
    show IntKind.u64.wrap (((BitVec.ofInt 64 k &&& BitVec.ofInt 64 (1 : Int)).toNat : Nat) : Int) = _
    generalize (BitVec.ofInt 64 k &&& BitVec.ofInt 64 (1 : Int)).toNat = q at *
    simp only [IntKind.wrap, IntKind.bits, IntKind.signed]
    simp
    omega
  omega
/-- the i-th bit, as the law tests it. -/
def tkb (t : Nat) (i : Nat) : Bool := decide (bits .and .u64 ((t : Int) / 2 ^ i) 1 = 1)
def Xs (b : Bool) : List ItT := if b then [(3, ⟨3, 5, [120]⟩)] else []
/-- what is known behind the first loop's rounds. -/
structure J1 (t : Nat) (i : Nat) (vs : List Vi) (A : Option Addr) (c : Nat) (W w : World) : Prop where
  grp : GrpIn W w (fun b => (Value.slice A vs.length c).ownBlock = some b) vs
  row : w.ownsRow W.heap.size 24 1 (.slice A vs.length c) vs.length (vs.map fun v => .pointer (some ⟨v.g, 0, none⟩))
  len : vs.length = i
  xs : ∀ j v, vs[j]? = some v → v.xs = Xs (tkb t j) ∧ v.p ≤ 9

set_option maxRecDepth 100000 in
set_option maxHeartbeats 4000000 in
theorem walk (W : World) (z : Int) (t s : Nat) :
    Calls Try.prog 6 #[.int .i64 z, .int .u64 (t : Int), .int .u64 (s : Int)] W fun e W' => e = .returned (.bool true) ∧ Fr NoBlk W W' := by
  have HS := Lib.hid (speaks_any W)
  obtain ⟨q, hq, hq7⟩ := low_bits z 7 (by omega)
  have hqq : bits .and .i64 z 7 = (q : Int) := hq
  have hwn : IntKind.i64.wrap (1 + (q : Int)) = ((q + 1 : Nat) : Int) := by rw [IntWalk.i64_in _ (by omega)]; omega
  clear hq
  go_enter Try.func6, Try.ntmps6
  go_wp2_with fail
  refine HS.out.mono ?_
  clear HS
  rintro e w1 ⟨rfl, hf1⟩
  have HF1 := Lib.hid hf1
  clear hf1
  obtain ⟨n, hn⟩ : ∃ n, n = q + 1 := ⟨_, rfl⟩
  rw [← hn] at hwn
  have HN : Hid (n ≤ 8) := by show _ ≤ _; omega
  obtain ⟨w2, hw2⟩ : ∃ w2, w2 = w1.alloc (.cells #[] 24) := ⟨_, rfl⟩
  have HJ0 : Hid (J1 t 0 [] (some ⟨w1.heap.size, 0, none⟩) 0 W w2) := by
    rw [hw2]
    exact ⟨GrpIn.nil _ (HF1.out.alloc _), own_base (World.ownsRow_made w1 #[] 0 (Nat.le_refl _) (by decide) rfl) HF1.out.size, rfl, fun j v h => by cases h⟩
  have HW2 := Lib.hid hw2
  clear hn hw2 hq7
  go_upto_region 5 with fail
  rw [← HW2.out]
  clear HW2 hqq
  go_wp2_with fail
  clear hwn
  go_loopw [8, 9, 12] (fun a b i wr => ∃ (k : Nat) (vs : List Vi) (A : Option Addr) (c : Nat), k ≤ n ∧ a = .slice A k c ∧ b = .int .i64 ((cnt (tkb t) k : Nat) : Int) ∧ i = .int .i64 (k : Int) ∧ Hid (J1 t k vs A c W wr)) (fun _ _ i _ => (n - intOf i).toNat)
  case atStart => exact ⟨0, [], _, 0, by omega, rfl, rfl, rfl, HJ0.out⟩
  case round =>
    clear HJ0
    obtain ⟨k, vs, A, c, hk, rfl, rfl, rfl, HJ⟩ := hrel
    by_cases hlt : k < n
    · have hki : (k : Int) < (n : Int) := by omega
      have hk8 : k < 8 := by have := HN.out; omega
      obtain ⟨i0, hi, hz0, hz1, hz2⟩ := info_parts ptrInfo
      go_wp2_with fail
      refine (vnewT_any wr).mono ?_
      rintro e w3 ⟨g, gt, O, rfl, hv3, hf3⟩
      have HV3 := Lib.hid hv3
      have HF3 := Lib.hid hf3
      clear hv3 hf3
      have ho4 : (w3.alloc (.cells #[.pointer (some ⟨g, 0, none⟩)] 24)).ownsRow W.heap.size 24 1 (.slice A vs.length c) vs.length (vs.map fun v => .pointer (some ⟨v.g, 0, none⟩)) := own_fr HJ.out.row (HF3.out.alloc _) (fun _ _ e => e)
      rw [HJ.out.len] at ho4
      have HO4 := Lib.hid ho4
      clear ho4
      go_wp2_with (at_builtin; refine wpList_appO rfl _ _ 61 rfl W.heap.size 24 i0 _ 1 8 Try.underlying61 hi hz0 hz1 hz2 rfl (by decide) (.slice A k c) k (vs.map fun v => .pointer (some ⟨v.g, 0, none⟩)) rfl HO4.out ⟨w3.heap.size, 0, none⟩ 1 1 [.pointer (some ⟨g, 0, none⟩)] rfl rfl (Rd.of_cells (Bk.new w3 _ #[.pointer (some ⟨g, 0, none⟩)])) ?c1 ?c2 ?c3 ?c4 ?_)
      case c1 => intro y hy; rw [List.mem_singleton.1 hy]; rfl
      case c2 => unfold maxLen; omega
      case c3 => omega
      case c4 => exact Nat.le_trans HJ.out.grp.fr.size (HF3.out.alloc _).size
      intro v4 w4 ho5 hg5 hb5
      obtain ⟨A4, c4, rfl, _, _⟩ := own_form ho5
      have hfa : Fr NoBlk w3 (w3.alloc (.cells #[.pointer (some ⟨g, 0, none⟩)] 24)) := (Fr.refl _ _).alloc _
      have hrw : ∀ b, (Value.slice A vs.length c).ownBlock = some b → b < wr.heap.size := fun b hb => (own_blk HJ.out.row hb).2
      have hgm := HJ.out.grp.more (u := ⟨g, gt, O, 0, []⟩) HV3.out HF3.out hrw
      have hg4 : GrpIn W w4 (fun b => (Value.slice A4 (k + 1) c4).ownBlock = some b) (vs ++ [⟨g, gt, O, 0, []⟩]) := by
        refine (hgm.nofr hfa).grown ((Fr.ofGrown hg5).mono fun i _ e => ?_) ((hgm.fr.trans hfa).grown hg5 fun b hb _ => ?_) fun b hb => ?_
        · rw [HJ.out.len]; exact e.symm
        · have := (own_blk HJ.out.row (by rw [HJ.out.len]; exact hb)).1; omega
        · rcases hb5 with e | e
          · rw [e] at hb; left; rw [HJ.out.len]; exact hb
          · rw [e] at hb; injection hb with hb; right; rw [World.size_alloc]; omega
      have hlen : (vs ++ [(⟨g, gt, O, 0, []⟩ : Vi)]).length = k + 1 := by rw [List.length_append, HJ.out.len]; rfl
      have hr4 : w4.ownsRow W.heap.size 24 1 (.slice A4 (k + 1) c4) (k + 1) ((vs ++ [(⟨g, gt, O, 0, []⟩ : Vi)]).map fun v => .pointer (some ⟨v.g, 0, none⟩)) := by
        rw [List.map_append]; exact ho5
      have hxs : ∀ j v, j < k → (vs ++ [(⟨g, gt, O, 0, []⟩ : Vi)])[j]? = some v → v.xs = Xs (tkb t j) ∧ v.p ≤ 9 := fun j v hj hv => by
        rw [List.getElem?_append_left (by rw [HJ.out.len]; exact hj)] at hv
        exact HJ.out.xs j v hv
      have hlast : (vs ++ [(⟨g, gt, O, 0, []⟩ : Vi)])[k]? = some ⟨g, gt, O, 0, []⟩ := by
        rw [List.getElem?_append_right (by rw [HJ.out.len]; exact Nat.le_refl _), HJ.out.len, Nat.sub_self]; rfl
      have H4 : Hid (GrpIn W w4 (fun b => (Value.slice A4 (k + 1) c4).ownBlock = some b) (vs ++ [⟨g, gt, O, 0, []⟩]) ∧ w4.ownsRow W.heap.size 24 1 (.slice A4 (k + 1) c4) (k + 1) ((vs ++ [(⟨g, gt, O, 0, []⟩ : Vi)]).map fun v => .pointer (some ⟨v.g, 0, none⟩)) ∧ (∀ j v, j < k → (vs ++ [(⟨g, gt, O, 0, []⟩ : Vi)])[j]? = some v → v.xs = Xs (tkb t j) ∧ v.p ≤ 9) ∧ (vs ++ [(⟨g, gt, O, 0, []⟩ : Vi)])[k]? = some ⟨g, gt, O, 0, []⟩ ∧ (vs ++ [(⟨g, gt, O, 0, []⟩ : Vi)]).length = k + 1) := ⟨hg4, hr4, hxs, hlast, hlen⟩
      obtain ⟨vs', hvs⟩ : ∃ vs', vs' = vs ++ [(⟨g, gt, O, 0, []⟩ : Vi)] := ⟨_, rfl⟩
      rw [← hvs] at H4
      clear ho5 hg5 hb5 hfa hrw hgm hg4 hlen hr4 hxs hlast HO4 HV3 HF3 HJ hvs
      go_upto_region 13 with fail
      have hw1k : IntKind.i64.wrap ((k : Int) + 1) = ((k + 1 : Nat) : Int) := by rw [IntWalk.i64_in _ (by omega)]; omega
      by_cases hb : bits .and .u64 ((t : Int) / 2 ^ k) 1 = 1
      · have HTK : Hid (tkb t k = true) := by show decide _ = _; exact decide_eq_true hb
        have HAC : Hid (Calls Try.prog 12 #[.pointer (some ⟨g, 0, none⟩), .agg #[.int .i64 3, .int .u64 5, .string { data := #[120] }]] w4 fun e w' => e = .returned (.bool true) ∧ ∃ O', VoT w' W.heap.size g gt O' 5 [(3, ⟨3, 5, [120]⟩)] ∧ (∀ b, O' b → O b ∨ w4.heap.size ≤ b) ∧ Fr (fun b => b = g ∨ O b) w4 w') := (vacceptT_any w4 W.heap.size g gt O 0 [] (H4.out.1.each ⟨g, gt, O, 0, []⟩ (List.mem_of_getElem? H4.out.2.2.2.1)) ⟨3, 5, [120]⟩).mono fun e w' h => h
        obtain ⟨cn, hcn⟩ : ∃ cn, cn = cnt (tkb t) k := ⟨_, rfl⟩
        have HCN : Hid (cnt (tkb t) (k + 1) = cn + 1) := by
          show _ = _
          rw [hcn]
          show cnt _ _ + _ = _
          rw [if_pos HTK.out]
        have hc8 : cn ≤ 8 := by have := cnt_le (tkb t) k; omega
        have hwc : IntKind.i64.wrap ((cn : Int) + 1) = ((cn + 1 : Nat) : Int) := by rw [IntWalk.i64_in _ (by omega)]; omega
        rw [← hcn]
        clear hcn
        go_wp2_with fail
        refine HAC.out.mono ?_
        rintro e w5 ⟨rfl, O', hv5, hO5, hf5⟩
        have HJ5 : Hid (J1 t (k + 1) (vs'.set k ⟨g, gt, O', 5, [(3, ⟨3, 5, [120]⟩)]⟩) A4 c4 W w5) := by
          have hl := H4.out.2.2.2.2
          have hr := H4.out.2.1
          have hlst := H4.out.2.2.2.1
          have hmap : (vs'.set k ⟨g, gt, O', 5, [(3, ⟨3, 5, [120]⟩)]⟩).map (fun v => Value.pointer (some ⟨v.g, 0, none⟩)) = vs'.map fun v => Value.pointer (some ⟨v.g, 0, none⟩) := by
            rw [List.map_set]
            refine List.ext_getElem? fun j => ?_
            by_cases e : j = k
            · subst e
              rw [List.getElem?_set_self (by rw [List.length_map]; omega), List.getElem?_map, hlst]; rfl
            · rw [List.getElem?_set_ne (fun x => e x.symm)]
          have hg := H4.out.1.turned hlst (u := ⟨g, gt, O', 5, [(3, ⟨3, 5, [120]⟩)]⟩) hv5 hf5 (fun b hb => by
            rcases hb with hb | hb
            · exact .inl (.inl hb)
            · exact (hO5 b hb).imp (fun x => .inr x) id) (fun b hb => (own_blk hr hb).2)
          have hl2 : (vs'.set k ⟨g, gt, O', 5, [(3, ⟨3, 5, [120]⟩)]⟩).length = k + 1 := by rw [List.length_set]; exact hl
          refine ⟨?_, ?_, hl2, fun j v hj => ?_⟩
          · rw [hl2]; exact hg
          · rw [hl2, hmap]
            exact own_fr hr hf5 fun b hb e => H4.out.1.row _ (List.mem_of_getElem? hlst) b e hb
          · by_cases e : j = k
            · subst e
              rw [List.getElem?_set_self (by omega)] at hj
              injection hj with hj
              subst hj
              rw [HTK.out]
              exact ⟨rfl, by show 5 ≤ 9; omega⟩
            · rw [List.getElem?_set_ne (fun x => e x.symm)] at hj
              have := (List.getElem?_eq_some_iff.1 hj).1
              exact H4.out.2.2.1 j v (by omega) hj
        clear hv5 hO5 hf5 HAC H4
        go_wp2_with fail
        go_roundw
        case rel => exact ⟨k + 1, _, A4, c4, by omega, rfl, by rw [HCN.out]; push_cast; rfl, rfl, HJ5⟩
        case measure => simp [intOf]; omega
      · have HTK : Hid (tkb t k = false) := by show decide _ = _; exact decide_eq_false hb
        have HCN : Hid (cnt (tkb t) (k + 1) = cnt (tkb t) k) := by
          show cnt _ _ + _ = _
          rw [if_neg (by rw [HTK.out]; decide)]; rfl
        have HJ5 : Hid (J1 t (k + 1) vs' A4 c4 W w4) := by
          have hl := H4.out.2.2.2.2
          refine ⟨by rw [hl]; exact H4.out.1, by rw [hl]; exact H4.out.2.1, hl, fun j v hj => ?_⟩
          by_cases e : j = k
          · subst e
            rw [H4.out.2.2.2.1] at hj
            injection hj with hj
            subst hj
            rw [HTK.out]
            exact ⟨rfl, Nat.zero_le _⟩
          · have := (List.getElem?_eq_some_iff.1 hj).1
            exact H4.out.2.2.1 j v (by omega) hj
        clear H4
        go_wp2_with fail
        go_roundw
        case rel => exact ⟨k + 1, _, A4, c4, by omega, rfl, by rw [HCN.out], rfl, HJ5⟩
        case measure => simp [intOf]; omega
    · have hkn : k = n := by omega
      subst hkn
      have hki : ¬ (k : Int) < (k : Int) := by omega
      clear hk hlt
      have HJL := Lib.hid HJ.out.len
      have hk8 : k ≤ 8 := HN.out
      go_wp2_with fail
      go_loopw [10, 11, 51] (fun a f i wr => ∃ (j : Nat) (vs : List Vi) (F : Bool), j ≤ k ∧ a = .int .i64 ((cnt (tkb s) j : Nat) : Int) ∧ f = .bool F ∧ i = .int .i64 (j : Int) ∧ Hid (J1 t k vs A c W wr) ∧ Hid (∀ m, m < j → tkb t m = true → tkb s m = true → F = true)) (fun _ _ i _ => (k - intOf i).toNat)
      case atStart => exact ⟨0, vs, false, by omega, rfl, rfl, rfl, HJ.out, fun m hm => by omega⟩
      case round =>
        clear HJ HJL
        obtain ⟨j, vs, F, hj, rfl, rfl, rfl, HJ, HF⟩ := hrel
        have hwj : IntKind.i64.wrap ((j : Int) + 1) = (j : Int) + 1 := by rw [IntWalk.i64_in _ (by have := HN.out; omega)]
        by_cases hlt : j < k
        · have hji : (j : Int) < (k : Int) := by omega
          obtain ⟨v, hv⟩ : ∃ v, vs[j]? = some v := ⟨_, List.getElem?_eq_getElem (by rw [HJ.out.len]; exact hlt)⟩
          obtain ⟨b, o, hA, hc⟩ := (own_cells HJ.out.row).1.at_ (k := j) (v := .pointer (some ⟨v.g, 0, none⟩)) (by rw [List.getElem?_map, hv]; rfl)
          dsimp only at hA
          have HV := Lib.hid hv
          have HVO := Lib.hid (HJ.out.grp.each v (List.mem_of_getElem? hv))
          have HVX := Lib.hid (HJ.out.xs j v hv)
          subst hA
          clear hv
          rcases low1 ((s : Int) / 2 ^ j) with hb | hb
          · have HTK : Hid (tkb s j = false) := by show decide _ = _; rw [hb]; rfl
            have HCN : Hid (cnt (tkb s) (j + 1) = cnt (tkb s) j) := by
              show cnt _ _ + _ = _
              rw [if_neg (by rw [HTK.out]; decide)]; rfl
            have HF2 : Hid (∀ m, m < j + 1 → tkb t m = true → tkb s m = true → F = true) := fun m hm h1 h2 => by
              by_cases e : m = j
              · subst e; rw [HTK.out] at h2; cases h2
              · exact HF.out m (by omega) h1 h2
            have hb0 : (bits .and .u64 ((s : Int) / 2 ^ j) 1 == 0) = true := by rw [hb]; rfl
            go_wp2_with fail
            go_roundw
            case rel => exact ⟨j + 1, vs, F, by omega, by rw [HCN.out], rfl, by go_num, HJ.out, HF2⟩
            case measure => simp [intOf]; omega
          · have HTK : Hid (tkb s j = true) := by show decide _ = _; rw [hb]; rfl
            obtain ⟨cn, hcn⟩ : ∃ cn, cn = cnt (tkb s) j := ⟨_, rfl⟩
            have HCN : Hid (cnt (tkb s) (j + 1) = cn + 1) := by
              show cnt _ _ + _ = _
              rw [if_pos HTK.out, hcn]
            have hc8 : cn ≤ 8 := by have := cnt_le (tkb s) j; have := HN.out; omega
            have hwc : IntKind.i64.wrap ((cn : Int) + 1) = ((cn + 1 : Nat) : Int) := by rw [IntWalk.i64_in _ (by omega)]; omega
            have hb0 : (bits .and .u64 ((s : Int) / 2 ^ j) 1 == 0) = false := by rw [hb]; rfl
            have hb1 : ¬ bits .and .u64 ((s : Int) / 2 ^ j) 1 = 0 := by rw [hb]; omega
            rw [← hcn]
            clear hcn hb
            have HPR : Hid (Calls Try.prog 9 #[.pointer (some ⟨v.g, 0, none⟩), .int .u64 9, .int .i64 0] wr fun e w' => ∃ A c, e = .returned (.tuple #[.slice A (geL ltI 0 v.xs).length c, .bool true]) ∧ w'.ownsRow wr.heap.size 43 3 (.slice A (geL ltI 0 v.xs).length c) (geL ltI 0 v.xs).length (valsT (geL ltI 0 v.xs)) ∧ VoT w' W.heap.size v.g v.gt v.O 9 v.xs ∧ Fr (fun k => k = v.g) wr w') := (vpromiseT_any wr W.heap.size v.g v.gt v.O v.p v.xs HVO.out 9 0).mono fun e w' hp => by
              unfold PromPostT at hp
              rw [if_neg (by have := HVX.out.2; omega)] at hp
              exact hp
            go_wp2_with fail
            refine HPR.out.mono ?_
            rintro e w5 ⟨A5, c5, rfl, ho5, hv5, hf5⟩
            have HJ5 : Hid (J1 t k (vs.set j ⟨v.g, v.gt, v.O, 9, v.xs⟩) (some ⟨b, o, none⟩) c W w5) := by
              have hl := HJ.out.len
              have hmap : (vs.set j ⟨v.g, v.gt, v.O, 9, v.xs⟩).map (fun v => Value.pointer (some ⟨v.g, 0, none⟩)) = vs.map fun v => Value.pointer (some ⟨v.g, 0, none⟩) := by
                rw [List.map_set]
                refine List.ext_getElem? fun m => ?_
                by_cases e : m = j
                · subst e
                  rw [List.getElem?_set_self (by rw [List.length_map]; omega), List.getElem?_map, HV.out]; rfl
                · rw [List.getElem?_set_ne (fun x => e x.symm)]
              have hl2 : (vs.set j ⟨v.g, v.gt, v.O, 9, v.xs⟩).length = vs.length := List.length_set
              have hf5' : Fr v.bl wr w5 := hf5.mono fun m _ e => .inl e
              refine ⟨?_, ?_, hl2.trans hl, fun m u hm => ?_⟩
              · rw [hl2]; exact HJ.out.grp.turned HV.out (u := ⟨v.g, v.gt, v.O, 9, v.xs⟩) hv5 hf5' (fun m hm => .inl hm) (fun m hm => (own_blk HJ.out.row hm).2)
              · rw [hl2, hmap]
                exact own_fr HJ.out.row hf5' fun m hm e => HJ.out.grp.row _ (List.mem_of_getElem? HV.out) m e hm
              · by_cases e : m = j
                · subst e
                  rw [List.getElem?_set_self (by omega)] at hm
                  injection hm with hm
                  subst hm
                  exact ⟨HVX.out.1, Nat.le_refl _⟩
                · rw [List.getElem?_set_ne (fun x => e x.symm)] at hm
                  exact HJ.out.xs m u hm
            clear hv5 hf5 HPR HJ HVO
            by_cases htk : tkb t j = true
            · have hxs : v.xs = [(3, ⟨3, 5, [120]⟩)] := by rw [HVX.out.1, htk]; rfl
              have hge : geL ltI 0 v.xs = [(3, ⟨3, 5, [120]⟩)] := by rw [hxs]; rfl
              rw [hge] at ho5 ⊢
              obtain ⟨b5, c5', e1, hcc⟩ := (own_cells ho5).2 _ rfl
              injection e1 with e1 _ _
              subst e1
              have d0 : w5.cell? ⟨b5, 0, none⟩ = some (.int .i64 3) := hcc 0 _ rfl
              have d1 : w5.cell? ⟨b5, 1, none⟩ = some (.int .u64 5) := hcc 1 _ rfl
              have d2 : w5.cell? ⟨b5, 2, none⟩ = some (.string { data := #[120] }) := hcc 2 _ rfl
              have HF2 : Hid (∀ m, m < j + 1 → tkb t m = true → tkb s m = true → true = true) := fun _ _ _ _ => rfl
              clear hxs hge ho5 hcc htk
              simp only [List.length_singleton]
              cases F with
              | true =>
                go_wp2_with fail
                go_roundw
                case rel => exact ⟨j + 1, _, true, by omega, by rw [HCN.out]; push_cast; rfl, rfl, by go_num, HJ5, HF2⟩
                case measure => simp [intOf]; omega
              | false =>
                go_wp2_with fail
                go_roundw
                case rel => exact ⟨j + 1, _, true, by omega, by rw [HCN.out]; push_cast; rfl, rfl, by go_num, HJ5, HF2⟩
                case measure => simp [intOf]; omega
            · have hxs : v.xs = [] := by rw [HVX.out.1, Bool.eq_false_iff.2 htk]; rfl
              have hge : geL ltI 0 v.xs = [] := by rw [hxs]; rfl
              rw [hge] at ho5 ⊢
              have HF2 : Hid (∀ m, m < j + 1 → tkb t m = true → tkb s m = true → F = true) := fun m hm h1 h2 => by
                by_cases e : m = j
                · subst e; exact absurd h1 htk
                · exact HF.out m (by omega) h1 h2
              clear hxs hge ho5 htk
              simp only [List.length_nil]
              cases F with
              | true =>
                go_wp2_with fail
                go_roundw
                case rel => exact ⟨j + 1, _, true, by omega, by rw [HCN.out]; push_cast; rfl, rfl, by go_num, HJ5, HF2⟩
                case measure => simp [intOf]; omega
              | false =>
                go_wp2_with fail
                go_roundw
                case rel => exact ⟨j + 1, _, false, by omega, by rw [HCN.out]; push_cast; rfl, rfl, by go_num, HJ5, HF2⟩
                case measure => simp [intOf]; omega
        · have hjk : j = k := by omega
          subst hjk
          have hji : ¬ (j : Int) < (j : Int) := by omega
          have HFE := Lib.hid HJ.out.grp.fr
          obtain ⟨ct, hct⟩ : ∃ ct, ct = cnt (tkb t) j := ⟨_, rfl⟩
          obtain ⟨cs, hcs⟩ : ∃ cs, cs = cnt (tkb s) j := ⟨_, rfl⟩
          have h1 : ct ≤ 8 := by have := cnt_le (tkb t) j; have := HN.out; omega
          have h2 : cs ≤ 8 := by have := cnt_le (tkb s) j; have := HN.out; omega
          have hw1 : IntKind.i64.wrap (2 * (ct : Int)) = 2 * (ct : Int) := by rw [IntWalk.i64_in _ (by omega)]
          have hw2 : IntKind.i64.wrap (2 * (cs : Int)) = 2 * (cs : Int) := by rw [IntWalk.i64_in _ (by omega)]
          have HM := Lib.hid (meet_ (tkb t) (tkb s) j)
          rw [← hct, ← hcs] at HM ⊢
          clear hct hcs HJ
          rcases HM.out with hm | hm | ⟨i, hi, e1, e2⟩
          · have g1 : decide (2 * (ct : Int) ≤ (j : Int)) = true := by simp; omega
            go_wp2_with fail
            go_ret
            exact ⟨rfl, HFE.out⟩
          · by_cases hm1 : 2 * ct ≤ j
            · have g1 : decide (2 * (ct : Int) ≤ (j : Int)) = true := by simp; omega
              go_wp2_with fail
              go_ret
              exact ⟨rfl, HFE.out⟩
            have g1 : decide (2 * (ct : Int) ≤ (j : Int)) = false := by simp; omega
            have g2 : decide (2 * (cs : Int) ≤ (j : Int)) = true := by simp; omega
            go_wp2_with fail
            go_ret
            exact ⟨rfl, HFE.out⟩
          · obtain rfl : F = true := HF.out i hi e1 e2
            by_cases hm1 : 2 * ct ≤ j
            · have g1 : decide (2 * (ct : Int) ≤ (j : Int)) = true := by simp; omega
              go_wp2_with fail
              go_ret
              exact ⟨rfl, HFE.out⟩
            have g1 : decide (2 * (ct : Int) ≤ (j : Int)) = false := by simp; omega
            by_cases hm2 : 2 * cs ≤ j
            · have g2 : decide (2 * (cs : Int) ≤ (j : Int)) = true := by simp; omega
              go_wp2_with fail
              go_ret
              exact ⟨rfl, HFE.out⟩
            have g2 : decide (2 * (cs : Int) ≤ (j : Int)) = false := by simp; omega
            go_wp2_with fail
            go_ret
            exact ⟨rfl, HFE.out⟩

theorem paramsOk : ∀ t ∈ Try.f6.params.toList, Try.prog.readableRec t = true ∧ t < Try.prog.types.size := fun t ht => by
  have h := List.all_eq_true.1 (show (Try.f6.params.toList.all fun t => Try.prog.readableRec t && decide (t < Try.prog.types.size)) = true by kernel_rfl) t ht
  simpa using h

set_option maxRecDepth 100000 in
theorem lifted (os : Os) (started : os.Started) (H : Type) (enc : TypeId × Value → H) :
    ReturnsInHanded {} Try.checked os 6 .any (Rows.acceptMajoritiesSpec.pre6 enc Try.prog Try.f6 Rows.acceptMajoritiesRow.domain false) (Rows.acceptMajoritiesSpec.post enc Try.prog Try.f6 false true false false) := by
  refine returnsInHanded_of_change (C := Try.checked) own started (by kernel_rfl) Try.func6
    (ChangeSpec.witness6 (enc := enc) (C := Try.checked) false ⟨#[], #[.int .i64 0, .int .u64 0, .int .u64 0], []⟩ 8 (by kernel_rfl) (by kernel_rfl) (by kernel_rfl) (by kernel_rfl)) ?_
  intro W base args ds gs before hval0 hW _ _
  have hval : ∀ (j : Nat) t v, Try.f6.params[j]? = some t → args[j]? = some v → Value.okWide Try.prog W .any base t v := hval0
  have hW' := hW
  obtain ⟨p, q, hA0, hV, rfl, _, _⟩ := hW
  have hA : DataW.TrodAll enc Try.prog W 0 (fun _ => true) true Try.f6.params.toList args.toList ds p := hA0
  rw [Try.params6] at hA hval
  obtain ⟨v0, vs0, d0, ds0, p0, q0, hargs, rfl, rfl, h0, r0⟩ := trodAll_cons hA
  obtain ⟨v1, vs1, d1, ds1, p1, q1, rfl, rfl, rfl, h1, r1⟩ := trodAll_cons r0
  obtain ⟨v2, vs2, d2, ds2, p2, q2, rfl, rfl, rfl, h2, r2⟩ := trodAll_cons r1
  obtain ⟨rfl, rfl, rfl⟩ := trodAll_nil r2
  obtain rfl : args = #[v0, v1, v2] := by cases args; simp_all
  obtain ⟨rfl, rfl⟩ := trodVars_none hV
  obtain ⟨z0, rfl, rfl, rfl, w0⟩ := open_int Try.underlying3 (hval 0 _ v0 rfl rfl) h0
  obtain ⟨z1, rfl, rfl, rfl, w1⟩ := open_int Try.underlying27 (hval 1 _ v1 rfl rfl) h1
  obtain ⟨z2, rfl, rfl, rfl, w2⟩ := open_int Try.underlying27 (hval 2 _ v2 rfl rfl) h2
  obtain ⟨m1, rfl, hm1⟩ := nat_u64 w1
  obtain ⟨m2, rfl, hm2⟩ := nat_u64 w2
  have walk := walk W z0 m1 m2
  clear hA0 hval0
  refine walk.mono fun e W' ⟨he, hf⟩ => ?_
  subst he
  exact ⟨_, rfl, law_post laidOut paramsOk rfl rfl Try.underlying4 hW' rfl rfl rfl hf⟩

theorem said : Rows.AcceptMajoritiesSaid :=
  OpenClaim.holds_of_wide 6 Try.f6 rfl rfl rfl rfl rfl rfl rfl ⟨rfl, rfl, rfl, rfl, rfl⟩ rfl rfl rfl rfl rfl (by kernel_rfl) Try.func6 (by kernel_rfl)
    (of_decide_eq_true (by kernel_rfl)) (by unfold Func.isWrapper; first | (rw [if_pos (by decide +kernel)]; kernel_rfl) | (rw [if_neg (by decide +kernel)]; exact ⟨rfl, rfl⟩))
    (fun os started H enc _ => lifted os started H enc)
end Go.Proofs.Yteeeokofampdeaa.acceptMajorities
