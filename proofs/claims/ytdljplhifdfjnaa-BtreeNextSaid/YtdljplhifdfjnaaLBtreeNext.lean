/- BtreeNext is true: from key to key by First a tree is gone through as Keys tells it. No condition. -/
import Derived.Test.YtdljplhifdfjnaaSpeaks2
import Derived.Test.YtdljplhifdfjnaaN8N
import Derived.Test.YtdljplhifdfjnaaOpenI
namespace Go.Proofs.Ytdljplhifdfjnaa.btreeNext
open Go.ChangeShapes Go.WideShapes Go.ChangeAt Go.RowKit

theorem low_bits (k : Int) (m : Nat) (hm : m ≤ 65535) : ∃ q : Nat, bits .and .i64 k (m : Int) = (q : Int) ∧ q ≤ m := by
  have e : (BitVec.ofInt 64 (m : Int)).toNat = m := by rw [BitVec.ofInt_natCast, BitVec.toNat_ofNat]; omega
  have hq : (BitVec.ofInt 64 k &&& BitVec.ofInt 64 (m : Int)).toNat ≤ m := by
    rw [BitVec.toNat_and]
    have := Nat.and_le_right (n := (BitVec.ofInt 64 k).toNat) (m := (BitVec.ofInt 64 (m : Int)).toNat)
    omega
  refine ⟨(BitVec.ofInt 64 k &&& BitVec.ofInt 64 (m : Int)).toNat, ?_, hq⟩
  show IntKind.i64.wrap (((BitVec.ofInt 64 k &&& BitVec.ofInt 64 (m : Int)).toNat : Nat) : Int) = _
  generalize (BitVec.ofInt 64 k &&& BitVec.ofInt 64 (m : Int)).toNat = q at *
  exact IntWalk.i64_in _ (by omega)
theorem mem_putL {key v : Int} {xs : List ItN} {p : ItN} (h : p ∈ putL ltI key v xs) : p = (key, v) ∨ p ∈ xs := by
  unfold putL at h
  rcases List.mem_append.1 h with h | h
  · exact .inr (List.mem_filter.1 h).1
  · rcases List.mem_cons.1 h with h | h
    · exact .inl h
    · exact .inr (List.mem_filter.1 h).1
theorem putL_le {key v : Int} {xs : List ItN} (hu : UpI ltI xs) : (putL ltI key v xs).length ≤ xs.length + 1 := by
  by_cases h : ∃ u, (key, u) ∈ xs
  · obtain ⟨u, h⟩ := h
    rw [putL_len_yes linI hu h]
    exact Nat.le_succ _
  · rw [putL_len_no linI fun u hu => h ⟨u, hu⟩]
    exact Nat.le_refl _
/-- from where the next key is looked for. -/
def atOf (xs : List ItN) : Nat → Int
  | 0 => 0
  | j + 1 => (xs.getD j (0, 0)).1 + 1
theorem at_is {xs : List ItN} (hu : UpI ltI xs) (h0 : ∀ p ∈ xs, 0 ≤ p.1) {j : Nat} (hj : j ≤ xs.length) : IsAt ltI xs (atOf xs j) j := by
  refine ⟨hj, fun i x hi hx => ?_, fun i x hi hx => ?_⟩
  · cases j with
    | zero => omega
    | succ j =>
      have hxj : xs[j]? = some (xs.getD j (0, 0)) := by rw [List.getD_eq_getElem?_getD, List.getElem?_eq_getElem (by omega)]; rfl
      show decide (x.1 < (xs.getD j (0, 0)).1 + 1) = true
      rcases Nat.lt_succ_iff_lt_or_eq.1 hi with h | h
      · have := hu.get h hx hxj
        simp only [ltI, decide_eq_true_eq] at this ⊢
        omega
      · subst h
        rw [hxj] at hx
        injection hx with hx
        subst hx
        exact decide_eq_true (by omega)
  · cases j with
    | zero => exact decide_eq_false (by have := h0 x (List.mem_of_getElem? hx); show ¬ x.1 < 0; omega)
    | succ j =>
      have hxj : xs[j]? = some (xs.getD j (0, 0)) := by rw [List.getD_eq_getElem?_getD, List.getElem?_eq_getElem (by omega)]; rfl
      have := hu.get (show j < i by omega) hxj hx
      simp only [ltI, decide_eq_true_eq] at this
      exact decide_eq_false (by show ¬ x.1 < (xs.getD j (0, 0)).1 + 1; omega)
/-- a tree made since world W, of at most k keys, all from 0 to 65535. -/
def Own (W : World) (g k : Nat) (wr : World) : Prop := ∃ O xs, TreeN wr g O xs ∧ (∀ b, O b → W.heap.size ≤ b) ∧ Fr NoBlk W wr ∧ xs.length ≤ k ∧ ∀ p ∈ xs, 0 ≤ p.1 ∧ p.1 ≤ 65535

set_option maxRecDepth 100000 in
set_option maxHeartbeats 1000000 in
theorem walk (W : World) (A : Option Addr) (c : Nat) (l : List Int) (hr : Rd W A (l.map fun z => .int .i64 z)) (hm : l.length ≤ maxLen) :
    Calls Try.prog 8 #[.slice A l.length c] W fun e W' => e = .returned (.bool true) ∧ Fr NoBlk W W' := by
  have HS := Lib.hid (speaks_any W)
  have HR := Lib.hid hr
  obtain ⟨n, hn⟩ : ∃ n, n = l.length := ⟨_, rfl⟩
  have HN := Lib.hid hn
  rw [← hn]
  clear hr hm hn
  go_enter Try.func8, Try.ntmps8
  go_wp2_with fail
  refine HS.out.mono ?_
  clear HS
  rintro e w1 ⟨rfl, hf1⟩
  have HF1 := Lib.hid hf1
  clear hf1
  by_cases hbig : (200 : Int) < (n : Int)
  · go_wp2_with fail
    go_ret
    exact ⟨rfl, HF1.out⟩
  · have HNW := Lib.hid (newN_any w1)
    have HN200 : Hid (n ≤ 200) := by show n ≤ 200; omega
    go_wp2_with fail
    refine HNW.out.mono ?_
    clear HNW
    rintro e w2 ⟨g, O, rfl, ht, hO, hf2⟩
    have HI0 : Hid (Own W g 0 w2) := ⟨O, [], ht, fun b hb => Nat.le_trans HF1.out.size (hO b hb), HF1.out.trans hf2, Nat.le_refl _, fun _ h => by cases h⟩
    clear ht hO hf2
    go_wp2_with fail
    go_loopw [23] (fun i wr => ∃ k : Nat, i = .int .i64 (k : Int) ∧ k ≤ n ∧ Hid (Own W g k wr)) (fun i _ => (n - intOf i).toNat)
    case atStart => exact ⟨0, rfl, Nat.zero_le _, HI0.out⟩
    case round =>
      obtain ⟨k, rfl, hk, HI⟩ := hrel
      by_cases hkn : k < n
      · have hki : (k : Int) < (n : Int) := by omega
        obtain ⟨z, hz⟩ : ∃ z, l[k]? = some z := ⟨_, List.getElem?_eq_getElem (by rw [← HN.out]; exact hkn)⟩
        obtain ⟨O1, xs, ht, hO, hf, hlen, hb⟩ := HI.out
        obtain ⟨b, o, hA, hc⟩ := (HR.out.nofr hf).at_ (k := k) (v := .int .i64 z) (by rw [List.getElem?_map, hz]; rfl)
        subst hA
        obtain ⟨q, hq, hq2⟩ := low_bits z 65535 (Nat.le_refl _)
        have hq' : bits .and .i64 z 65535 = (q : Int) := hq
        have HP : Hid (Calls Try.prog 33 #[.pointer (some ⟨g, 0, none⟩), .int .i64 (q : Int), .int .i64 (k : Int)] wr (TreePutN wr g O1 xs (q : Int) (k : Int))) := treePutN_any wr g O1 xs ht (by have := HN200.out; omega) (q : Int) (k : Int)
        have HUP := Lib.hid ht.up
        have HX := Lib.hid (And.intro hO (And.intro hf (And.intro hlen hb)))
        have HQ2 := Lib.hid hq2
        have hwr : IntKind.i64.wrap ((k : Int) + 1) = (k : Int) + 1 := by have := HN200.out; exact IntWalk.i64_in _ (by omega)
        clear hz ht hO hf hlen hb hq hq2 HI HI0
        go_wp2_with fail
        refine HP.out.mono ?_
        clear HP
        rintro e w4 ⟨old, had, O4, rfl, hlk, ht4, hs4⟩
        have HI4 : Hid (Own W g (k + 1) w4) := by
          obtain ⟨hO, hf, hlen, hb⟩ := HX.out
          obtain ⟨h1, h2⟩ := Stp.no hf hs4 hO
          refine ⟨O4, _, ht4, h2, h1, Nat.le_trans (putL_le HUP.out) (by omega), fun p hp => ?_⟩
          rcases mem_putL hp with rfl | hp
          · have := HQ2.out
            exact ⟨by show (0 : Int) ≤ (q : Int); omega, by show (q : Int) ≤ 65535; omega⟩
          · exact hb p hp
        clear hlk ht4 hs4 HX HUP
        go_wp2_with fail
        go_roundw
        case rel => exact ⟨k + 1, by push_cast; rfl, by omega, HI4.out⟩
        case measure => simp [intOf]; omega
      · have hki : ¬ (k : Int) < (n : Int) := by omega
        obtain ⟨O1, xs, ht, hO, hf, hlen, hb⟩ := HI.out
        obtain ⟨m, hm⟩ : ∃ m, m = xs.length := ⟨_, rfl⟩
        have HK := Lib.hid (treeKeysN_any wr g O1 xs ht (by have := HN200.out; omega))
        rw [← hm] at HK
        have HM := Lib.hid hm
        have HT := Lib.hid ht
        have HX := Lib.hid (And.intro hO (And.intro hf (And.intro hlen hb)))
        have HM2 : Hid (m ≤ 200) := by show m ≤ 200; have := HN200.out; omega
        have HAT : Hid (∀ j, j ≤ m → geL ltI (atOf xs j) xs = xs.drop j) := fun j hj => geL_at (at_is ht.up (fun p hp => (hb p hp).1) (by rw [← hm]; exact hj))
        clear hm ht hO hf hlen hb HI HI0
        go_wp2_with fail
        refine HK.out.mono ?_
        clear HK
        rintro e w4 ⟨A4, c4, rfl, ho4, hf4⟩
        have HRK : Hid (Rd w4 A4 (xs.map keycN)) := Rd.of_own ho4
        have HF4 : Hid (Fr NoBlk W w4) := HX.out.2.1.trans hf4
        have HT4 : Hid (TreeN w4 g O1 xs) := HT.out.nofr hf4
        clear ho4 hf4 HT
        go_wp2_with fail
        go_loopw [6, 37] (fun a i wr' => ∃ j : Nat, i = .int .i64 (j : Int) ∧ j ≤ m ∧ a = .int .i64 (atOf xs j) ∧ Hid (Fr NoBlk w4 wr')) (fun _ i _ => (m - intOf i).toNat)
        case atStart => exact ⟨0, rfl, Nat.zero_le _, rfl, Fr.refl _ _⟩
        case round =>
          obtain ⟨j, rfl, hj, rfl, HFJ⟩ := hrel
          by_cases hjm : j < m
          · have hji : (j : Int) < (m : Int) := by omega
            obtain ⟨x, hx⟩ : ∃ x, xs[j]? = some x := ⟨_, List.getElem?_eq_getElem (by rw [← HM.out]; exact hjm)⟩
            obtain ⟨xk, xv⟩ := x
            obtain ⟨b, o, hA, hc⟩ := (HRK.out.nofr HFJ.out).at_ (k := j) (v := .int .i64 xk) (by rw [List.getElem?_map, hx]; rfl)
            subst hA
            have hbx := HX.out.2.2.2 _ (List.mem_of_getElem? hx)
            have HNE : Hid (atOf xs (j + 1) = xk + 1) := by show (xs.getD j (0, 0)).1 + 1 = _; rw [List.getD_eq_getElem?_getD, hx]; rfl
            obtain ⟨at_, hat⟩ : ∃ a, a = atOf xs j := ⟨_, rfl⟩
            have HFR : Hid (Calls Try.prog 35 #[.pointer (some ⟨g, 0, none⟩), .int .i64 at_] wr (TreeFirstN wr xs at_)) := treeFirstN_any wr g O1 xs (HT4.out.nofr HFJ.out) at_
            have HGD : Hid (geL ltI at_ xs = (xk, xv) :: xs.drop (j + 1)) := by
              show _ = _
              rw [hat, HAT.out j (by omega)]
              have := list_mid (xs := xs.drop j) (i := 0) (x := (xk, xv)) (by rw [List.getElem?_drop]; exact hx)
              rw [List.drop_drop] at this
              simpa using this
            rw [← hat]
            have hwk : IntKind.i64.wrap (xk + 1) = xk + 1 := IntWalk.i64_in _ (by omega)
            have hwr : IntKind.i64.wrap ((j : Int) + 1) = (j : Int) + 1 := by have := HM2.out; exact IntWalk.i64_in _ (by omega)
            clear hx hbx hat
            go_wp2_with fail
            refine HFR.out.mono ?_
            clear HFR
            rintro e w5 ⟨k5, b5, rfl, hfst, hf5⟩
            obtain ⟨rfl, rfl⟩ : b5 = true ∧ k5 = xk := by
              rcases hfst with ⟨h, v, t, h2⟩ | ⟨_, _, h2⟩
              · rw [HGD.out] at h2
                injection h2 with h3 _
                injection h3 with h3 _
                exact ⟨h, h3.symm⟩
              · rw [HGD.out] at h2; cases h2
            have HF5 : Hid (Fr NoBlk w4 w5) := HFJ.out.trans hf5
            clear hfst hf5
            go_wp2_with fail
            go_roundw
            case rel => exact ⟨j + 1, by push_cast; rfl, by omega, by rw [HNE.out], HF5.out⟩
            case measure => simp [intOf]; omega
          · have hji : ¬ (j : Int) < (m : Int) := by omega
            obtain ⟨at_, hat⟩ : ∃ a, a = atOf xs j := ⟨_, rfl⟩
            have HFR : Hid (Calls Try.prog 35 #[.pointer (some ⟨g, 0, none⟩), .int .i64 at_] wr (TreeFirstN wr xs at_)) := treeFirstN_any wr g O1 xs (HT4.out.nofr HFJ.out) at_
            have HGD : Hid (geL ltI at_ xs = []) := by
              show _ = _
              rw [hat, HAT.out j hj]
              exact List.drop_eq_nil_of_le (by rw [← HM.out]; omega)
            rw [← hat]
            clear hat
            go_wp2_with fail
            refine HFR.out.mono ?_
            clear HFR
            rintro e w5 ⟨k5, b5, rfl, hfst, hf5⟩
            obtain rfl : b5 = false := by
              rcases hfst with ⟨_, v, t, h2⟩ | ⟨h, _⟩
              · rw [HGD.out] at h2; cases h2
              · exact h
            have HF5 : Hid (Fr NoBlk W w5) := (HF4.out.trans HFJ.out).trans hf5
            clear hfst hf5
            go_wp2_with fail
            go_ret
            exact ⟨rfl, HF5.out⟩

theorem paramsOk : ∀ t ∈ Try.f8.params.toList, Try.prog.readableRec t = true ∧ t < Try.prog.types.size := fun t ht => by
  have h := List.all_eq_true.1 (show (Try.f8.params.toList.all fun t => Try.prog.readableRec t && decide (t < Try.prog.types.size)) = true by kernel_rfl) t ht
  simpa using h

set_option maxRecDepth 100000 in
theorem lifted (os : Os) (started : os.Started) (H : Type) (enc : TypeId × Value → H) :
    ReturnsInHanded {} Try.checked os 8 .any (Rows.btreeNextSpec.pre6 enc Try.prog Try.f8 Rows.btreeNextRow.domain false) (Rows.btreeNextSpec.post enc Try.prog Try.f8 false true false false) := by
  refine returnsInHanded_of_change (C := Try.checked) own started (by kernel_rfl) Try.func8
    (ChangeSpec.witness6 (enc := enc) (C := Try.checked) false ⟨#[], #[.slice none 0 0], []⟩ 8 (by kernel_rfl) (by kernel_rfl) (by kernel_rfl) (by kernel_rfl)) ?_
  intro W base args ds gs before hval0 hW _ _
  have hval : ∀ (j : Nat) t v, Try.f8.params[j]? = some t → args[j]? = some v → Value.okWide Try.prog W .any base t v := hval0
  have hW' := hW
  obtain ⟨p, q, hA0, hV, rfl, _, _⟩ := hW
  have hA : DataW.TrodAll enc Try.prog W 0 (fun _ => true) true Try.f8.params.toList args.toList ds p := hA0
  rw [Try.params8] at hA hval
  obtain ⟨v0, vs0, d0, ds0, p0, q0, hargs, rfl, rfl, h0, r0⟩ := trodAll_cons hA
  obtain ⟨rfl, rfl, rfl⟩ := trodAll_nil r0
  obtain rfl : args = #[v0] := by cases args; simp_all
  obtain ⟨rfl, rfl⟩ := trodVars_none hV
  obtain ⟨A, c, l, rfl, hr, hA', hn, hm⟩ := open_ints1 (hval 0 _ v0 rfl rfl) h0
  have walk := walk W A c l hr (Nat.le_trans hn hm)
  clear hA0 hval0
  refine walk.mono fun e W' ⟨he, hf⟩ => ?_
  subst he
  exact ⟨_, rfl, law_post laidOut paramsOk rfl rfl Try.underlying4 hW' rfl rfl rfl hf⟩

theorem said : Rows.BtreeNextSaid :=
  OpenClaim.holds_of_wide 8 Try.f8 rfl rfl rfl rfl rfl rfl rfl ⟨rfl, rfl, rfl, rfl, rfl⟩ rfl rfl rfl rfl rfl (by kernel_rfl) Try.func8 (by kernel_rfl)
    (of_decide_eq_true (by kernel_rfl)) (by unfold Func.isWrapper; first | (rw [if_pos (by decide +kernel)]; kernel_rfl) | (rw [if_neg (by decide +kernel)]; exact ⟨rfl, rfl⟩))
    (fun os started H enc _ => lifted os started H enc)
end Go.Proofs.Ytdljplhifdfjnaa.btreeNext
