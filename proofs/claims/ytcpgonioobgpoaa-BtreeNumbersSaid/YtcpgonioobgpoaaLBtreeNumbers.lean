/- BtreeNumbers is true: numbers are kept in their order, and what was put and taken out leaves nothing. No condition. -/
import Derived.Test.YtcpgonioobgpoaaSpeaks2
import Derived.Test.YtcpgonioobgpoaaN6B
import Derived.Test.YtcpgonioobgpoaaN7B
import Derived.Test.YtcpgonioobgpoaaN16B
import Derived.Test.YtcpgonioobgpoaaOpenI
namespace Go.Proofs.Ytcpgonioobgpoaa.btreeNumbers
open Go.ChangeShapes Go.WideShapes Go.ChangeAt Go.RowKit

theorem mem_putL {key : Int} {v : Bool} {xs : List ItB} {p : ItB} : p ∈ putL ltI key v xs ↔ p = (key, v) ∨ (p ∈ xs ∧ p.1 ≠ key) := by
  unfold putL
  simp only [List.mem_append, List.mem_cons, List.mem_filter, ltI, decide_eq_true_eq]
  constructor
  · rintro (⟨h, h2⟩ | h | ⟨h, h2⟩)
    · exact .inr ⟨h, by omega⟩
    · exact .inl h
    · exact .inr ⟨h, by omega⟩
  · rintro (h | ⟨h, h2⟩)
    · exact .inr (.inl h)
    · rcases Int.lt_or_lt_of_ne h2 with h3 | h3
      · exact .inl ⟨h, h3⟩
      · exact .inr (.inr ⟨h, h3⟩)
theorem mem_delL {key : Int} {xs : List ItB} {p : ItB} : p ∈ delL ltI key xs ↔ p ∈ xs ∧ p.1 ≠ key := by
  unfold delL
  simp only [List.mem_filter, ltI, Bool.or_eq_true, decide_eq_true_eq]
  constructor
  · rintro ⟨h, h2⟩
    exact ⟨h, by omega⟩
  · rintro ⟨h, h2⟩
    exact ⟨h, by omega⟩
theorem putL_le {key : Int} {v : Bool} {xs : List ItB} (hu : UpI ltI xs) : (putL ltI key v xs).length ≤ xs.length + 1 := by
  by_cases h : ∃ u, (key, u) ∈ xs
  · obtain ⟨u, h⟩ := h
    rw [putL_len_yes linI hu h]
    exact Nat.le_succ _
  · rw [putL_len_no linI fun u hu => h ⟨u, hu⟩]
    exact Nat.le_refl _
/-- what is in the tree behind k puts. -/
def Holds (l : List Int) (k : Nat) (xs : List ItB) : Prop := xs.length ≤ k ∧ (∀ p ∈ xs, p.2 = true ∧ p.1 ∈ l) ∧ ∀ z ∈ l.take k, (z, true) ∈ xs
/-- what is in the tree behind k further calls of Delete. -/
def Left (l : List Int) (k : Nat) (xs : List ItB) : Prop := xs.length ≤ l.length ∧ ∀ p ∈ xs, p.1 ∈ l ∧ p.1 ∉ l.take k
/-- a tree made since world W. -/
def Own (W : World) (g : Nat) (P : List ItB → Prop) (wr : World) : Prop := ∃ O xs, TreeB wr g O xs ∧ (∀ b, O b → W.heap.size ≤ b) ∧ Fr NoBlk W wr ∧ P xs
theorem take_up {l : List Int} {k : Nat} {z : Int} (hz : l[k]? = some z) {y : Int} : y ∈ l.take (k + 1) ↔ y ∈ l.take k ∨ y = z := by
  rw [List.take_add_one, hz]
  simp
theorem Holds.put {l : List Int} {k : Nat} {xs : List ItB} {z : Int} (h : Holds l k xs) (hu : UpI ltI xs) (hz : l[k]? = some z) : Holds l (k + 1) (putL ltI z true xs) := by
  refine ⟨Nat.le_trans (putL_le hu) (Nat.succ_le_succ h.1), fun p hp => ?_, fun y hy => ?_⟩
  · rcases mem_putL.1 hp with rfl | ⟨hp, _⟩
    · exact ⟨rfl, List.mem_of_getElem? hz⟩
    · exact h.2.1 p hp
  · refine mem_putL.2 ?_
    rcases (take_up hz).1 hy with hy | rfl
    · by_cases e : y = z
      · exact .inl (by rw [e])
      · exact .inr ⟨h.2.2 y hy, e⟩
    · exact .inl rfl

set_option maxRecDepth 100000 in
set_option maxHeartbeats 1000000 in
theorem walk (W : World) (A : Option Addr) (c : Nat) (l : List Int) (hr : Rd W A (l.map fun z => .int .i64 z)) (_ : l.length ≤ maxLen) :
    Calls Try.prog 6 #[.slice A l.length c] W fun e W' => e = .returned (.bool true) ∧ Fr NoBlk W W' := by
  have HS := Lib.hid (speaks_any W)
  have HR := Lib.hid hr
  obtain ⟨n, hn⟩ : ∃ n, n = l.length := ⟨_, rfl⟩
  have HN := Lib.hid hn
  rw [← hn]
  clear hr hn
  go_enter Try.func6, Try.ntmps6
  go_wp2_with fail
  refine HS.out.mono ?_
  clear HS
  rintro e w1 ⟨rfl, hf1⟩
  have HF1 := Lib.hid hf1
  clear hf1
  by_cases hbig : (300 : Int) < (n : Int)
  · go_wp2_with fail
    go_ret
    exact ⟨rfl, HF1.out⟩
  · have HNW := Lib.hid (newB_any w1)
    have HN300 : Hid (n ≤ 300) := by show n ≤ 300; omega
    go_wp2_with fail
    refine HNW.out.mono ?_
    clear HNW
    rintro e w2 ⟨g, O, rfl, ht, hO, hf2⟩
    have HI0 : Hid (Own W g (Holds l 0) w2) := ⟨O, [], ht, fun b hb => Nat.le_trans HF1.out.size (hO b hb), HF1.out.trans hf2, Nat.le_refl _, fun _ h => (by cases h), fun _ h => (by cases h)⟩
    clear ht hO hf2
    go_wp2_with fail
    go_loopw [24] (fun i wr => ∃ k : Nat, i = .int .i64 (k : Int) ∧ k ≤ n ∧ Hid (Own W g (Holds l k) wr)) (fun i _ => (n - intOf i).toNat)
    case atStart => exact ⟨0, rfl, Nat.zero_le _, HI0.out⟩
    case round =>
      obtain ⟨k, rfl, hk, HI⟩ := hrel
      by_cases hkn : k < n
      · have hki : (k : Int) < (n : Int) := by omega
        obtain ⟨z, hz⟩ : ∃ z, l[k]? = some z := ⟨_, List.getElem?_eq_getElem (by rw [← HN.out]; exact hkn)⟩
        obtain ⟨O1, xs, ht, hO, hf, hh⟩ := HI.out
        obtain ⟨b, o, hA, hc⟩ := (HR.out.nofr hf).at_ (k := k) (v := .int .i64 z) (by rw [List.getElem?_map, hz]; rfl)
        subst hA
        have HP : Hid (Calls Try.prog 27 #[.pointer (some ⟨g, 0, none⟩), .int .i64 z, .bool true] wr (TreePutB wr g O1 xs z true)) := treePutB_any wr g O1 xs ht (by have := HN300.out; have := hh.1; omega) z true
        have HUP := Lib.hid ht.up
        have HX := Lib.hid (And.intro hO (And.intro hf (And.intro hh hz)))
        have hwr : IntKind.i64.wrap ((k : Int) + 1) = (k : Int) + 1 := by have := HN300.out; exact IntWalk.i64_in _ (by omega)
        clear hz ht hO hf hh HI HI0
        go_wp2_with fail
        refine HP.out.mono ?_
        clear HP
        rintro e w4 ⟨old, had, O4, rfl, hlk, ht4, hs4⟩
        have HI4 : Hid (Own W g (Holds l (k + 1)) w4) := by
          obtain ⟨hO, hf, hh, hz⟩ := HX.out
          obtain ⟨h1, h2⟩ := Stp.no hf hs4 hO
          exact ⟨O4, _, ht4, h2, h1, hh.put HUP.out hz⟩
        clear hlk ht4 hs4 HX HUP
        go_wp2_with fail
        go_roundw
        case rel => exact ⟨k + 1, by push_cast; rfl, by omega, HI4.out⟩
        case measure => simp [intOf]; omega
      · have hki : ¬ (k : Int) < (n : Int) := by omega
        obtain rfl : k = n := by omega
        obtain ⟨O1, xs, ht, hO, hf, hh⟩ := HI.out
        obtain ⟨m, hm⟩ : ∃ m, m = xs.length := ⟨_, rfl⟩
        have HK := Lib.hid (treeKeysB_any wr g O1 xs ht (by have := HN300.out; have := hh.1; omega))
        rw [← hm] at HK
        have HM := Lib.hid hm
        have HT := Lib.hid ht
        have HX := Lib.hid (And.intro hO (And.intro hf hh))
        have HM2 : Hid (m ≤ k) := by show m ≤ k; rw [hm]; exact hh.1
        clear hm ht hO hf hh HI HI0
        go_wp2_with fail
        refine HK.out.mono ?_
        clear HK
        rintro e w4 ⟨A4, c4, rfl, ho4, hf4⟩
        have HRK : Hid (Rd w4 A4 (xs.map keycB)) := Rd.of_own ho4
        have HF4 : Hid (Fr NoBlk W w4) := HX.out.2.1.trans hf4
        have HT4 : Hid (TreeB w4 g O1 xs) := HT.out.nofr hf4
        clear ho4 hf4 HT
        go_wp2_with fail
        go_loopw [36] (fun i wr' => ∃ j : Nat, i = .int .i64 (j : Int) ∧ j ≤ m ∧ Hid (Fr NoBlk w4 wr')) (fun i _ => (m - intOf i).toNat)
        case atStart => exact ⟨0, rfl, Nat.zero_le _, Fr.refl _ _⟩
        case round =>
          obtain ⟨j, rfl, hj, HFJ⟩ := hrel
          have HRJ := Lib.hid (HRK.out.nofr HFJ.out)
          by_cases hjm : j < m
          · have hji : (j : Int) < (m : Int) := by omega
            obtain ⟨x, hx⟩ : ∃ x, xs[j]? = some x := ⟨_, List.getElem?_eq_getElem (by rw [← HM.out]; exact hjm)⟩
            obtain ⟨b1, o1, hA1, hc1⟩ := HRJ.out.at_ (k := j) (v := .int .i64 x.1) (by rw [List.getElem?_map, hx]; rfl)
            subst hA1
            have hwr : IntKind.i64.wrap ((j : Int) + 1) = (j : Int) + 1 := by have := HN300.out; have := HM2.out; exact IntWalk.i64_in _ (by omega)
            by_cases hj0 : j = 0
            · subst hj0
              clear hx
              go_wp2_with fail
              go_region
              go_wp2_with fail
              go_roundw
              case rel => exact ⟨1, rfl, by omega, HFJ.out.drew⟩
              case measure => simp [intOf]; omega
            · have hj1 : (0 : Int) < (j : Int) := by omega
              obtain ⟨y, hy⟩ : ∃ y, xs[j - 1]? = some y := ⟨_, List.getElem?_eq_getElem (by rw [← HM.out]; omega)⟩
              obtain ⟨b2, o2, hA2, hc2⟩ := HRJ.out.at_ (k := j - 1) (v := .int .i64 y.1) (by rw [List.getElem?_map, hy]; rfl)
              have hlt : ¬ x.1 ≤ y.1 := by
                have := HT4.out.up.get (show j - 1 < j by omega) hy hx
                simp only [ltI, decide_eq_true_eq] at this
                omega
              injection hA2 with hA2
              injection hA2 with e1 e2 e3
              subst e1 e2
              have hws : IntKind.i64.wrap ((j : Int) - 1) = ((j - 1 : Nat) : Int) := by have := HN300.out; have := HM2.out; rw [IntWalk.i64_in _ (by omega)]; omega
              have hjm1 : ((j - 1 : Nat) : Int) < (m : Int) := by omega
              have hj2 : 0 < j := by omega
              have hdj : decide (0 < j) = true := decide_eq_true hj2
              have hdl : decide (x.1 ≤ y.1) = false := decide_eq_false hlt
              clear hx hy
              go_wp2_with fail
              go_quiet (fail)
              go_wp2_with fail
              go_roundw
              case rel => exact ⟨j + 1, by push_cast; rfl, by omega, HFJ.out.drewN _⟩
              case measure => simp [intOf]; omega
          · have hji : ¬ (j : Int) < (m : Int) := by omega
            clear hj hjm
            have HK0 : Hid ((0 : Int) < (m : Int) ↔ (0 : Int) < (k : Int)) := by
              show _ ↔ _
              have := HM2.out
              refine ⟨fun h => by omega, fun h => ?_⟩
              obtain ⟨z, hz⟩ : ∃ z, l[0]? = some z := ⟨_, List.getElem?_eq_getElem (by rw [← HN.out]; omega)⟩
              have hz2 : z ∈ l.take k := by rw [HN.out, List.take_length]; exact List.mem_of_getElem? hz
              have := List.length_pos_of_mem (HX.out.2.2.2.2 z hz2)
              have := HM.out
              omega
            go_wp2_with fail
            go_loopw [56] (fun i wr' => ∃ j : Nat, i = .int .i64 (j : Int) ∧ j ≤ k ∧ Hid (Fr NoBlk w4 wr')) (fun i _ => (k - intOf i).toNat)
            case atStart => exact ⟨0, rfl, Nat.zero_le _, HFJ.out⟩
            case round =>
              obtain ⟨j, rfl, hj, HF3⟩ := hrel
              have HT5 := Lib.hid (HT4.out.nofr HF3.out)
              have HFW := Lib.hid (HF4.out.trans HF3.out)
              by_cases hjk : j < k
              · have hjj : (j : Int) < (k : Int) := by omega
                obtain ⟨z, hz⟩ : ∃ z, l[j]? = some z := ⟨_, List.getElem?_eq_getElem (by rw [← HN.out]; exact hjk)⟩
                obtain ⟨b, o, hA, hc⟩ := (HR.out.nofr HFW.out).at_ (k := j) (v := .int .i64 z) (by rw [List.getElem?_map, hz]; rfl)
                subst hA
                have HP := Lib.hid (treeGetB_any wr g O1 xs HT5.out z)
                have HIN : Hid ((z, true) ∈ xs) := HX.out.2.2.2.2 z (by rw [HN.out, List.take_length]; exact List.mem_of_getElem? hz)
                have hwr : IntKind.i64.wrap ((j : Int) + 1) = (j : Int) + 1 := by have := HN300.out; exact IntWalk.i64_in _ (by omega)
                clear hz
                go_wp2_with fail
                refine HP.out.mono ?_
                clear HP
                rintro e w5 ⟨v, had, rfl, hlk, hf5⟩
                obtain ⟨rfl, rfl⟩ : had = true ∧ v = true := by
                  rcases hlk with ⟨h, h2⟩ | ⟨_, _, h2⟩
                  · exact ⟨h, (HX.out.2.2.2.1 _ h2).1⟩
                  · exact absurd HIN.out (h2 true)
                have HF5 := Lib.hid (HF3.out.trans hf5)
                clear hlk hf5
                go_wp2_with fail
                go_roundw
                case rel => exact ⟨j + 1, by push_cast; rfl, by omega, HF5.out⟩
                case measure => simp [intOf]; omega
              · have hjj : ¬ (j : Int) < (k : Int) := by omega
                have HI1 : Hid (Own W g (Left l 0) wr) := ⟨O1, xs, HT5.out, HX.out.1, HFW.out, by have := HX.out.2.2.1; have := HN.out; omega, fun p hp => ⟨(HX.out.2.2.2.1 p hp).2, fun h => by cases h⟩⟩
                clear hj hjk
                go_wp2_with fail
                go_loopw [75] (fun i wr' => ∃ j : Nat, i = .int .i64 (j : Int) ∧ j ≤ k ∧ Hid (Own W g (Left l j) wr')) (fun i _ => (k - intOf i).toNat)
                case atStart => exact ⟨0, rfl, Nat.zero_le _, HI1.out⟩
                case round =>
                  obtain ⟨j, rfl, hj, HI⟩ := hrel
                  obtain ⟨O6, ys, ht, hO, hf, hh⟩ := HI.out
                  by_cases hjk : j < k
                  · have hjj : (j : Int) < (k : Int) := by omega
                    obtain ⟨z, hz⟩ : ∃ z, l[j]? = some z := ⟨_, List.getElem?_eq_getElem (by rw [← HN.out]; exact hjk)⟩
                    obtain ⟨b, o, hA, hc⟩ := (HR.out.nofr hf).at_ (k := j) (v := .int .i64 z) (by rw [List.getElem?_map, hz]; rfl)
                    subst hA
                    have HP := Lib.hid (treeDelB_any wr g O6 ys ht (by have := HN300.out; have := HN.out; have := hh.1; omega) z)
                    have HX6 := Lib.hid (And.intro hO (And.intro hf (And.intro hh hz)))
                    have hwr : IntKind.i64.wrap ((j : Int) + 1) = (j : Int) + 1 := by have := HN300.out; exact IntWalk.i64_in _ (by omega)
                    clear hz ht hO hf hh HI HI1
                    go_wp2_with fail
                    refine HP.out.mono ?_
                    clear HP
                    rintro e w7 ⟨old, had, O7, rfl, hlk, ht7, hs7⟩
                    have HI7 : Hid (Own W g (Left l (j + 1)) w7) := by
                      obtain ⟨hO, hf, hh, hz⟩ := HX6.out
                      obtain ⟨h1, h2⟩ := Stp.no hf hs7 hO
                      refine ⟨O7, _, ht7, h2, h1, Nat.le_trans (List.length_filter_le _ _) hh.1, fun p hp => ?_⟩
                      obtain ⟨h3, h4⟩ := mem_delL.1 hp
                      exact ⟨(hh.2 p h3).1, fun h5 => ((take_up hz).1 h5).elim (hh.2 p h3).2 h4⟩
                    clear hlk ht7 hs7 HX6
                    go_wp2_with fail
                    go_roundw
                    case rel => exact ⟨j + 1, by push_cast; rfl, by omega, HI7.out⟩
                    case measure => simp [intOf]; omega
                  · have hjj : ¬ (j : Int) < (k : Int) := by omega
                    obtain rfl : j = k := by omega
                    obtain rfl : ys = [] := by
                      refine List.eq_nil_iff_forall_not_mem.2 fun p hp => ?_
                      have h := hh.2 p hp
                      rw [HN.out, List.take_length] at h
                      exact h.2 h.1
                    have HL7 := Lib.hid (lenB_any wr g O6 [] ht)
                    have HK7 := Lib.hid (treeKeysB_any wr g O6 [] ht (by simp))
                    have HFE := Lib.hid hf
                    clear ht hO hf hh HI HI1
                    go_wp2_with fail
                    refine HL7.out.mono ?_
                    clear HL7
                    rintro e w8 ⟨rfl, rfl⟩
                    have hmk : (m : Int) ≤ (j : Int) := by have := HM2.out; omega
                    go_wp2_with fail
                    refine HK7.out.mono ?_
                    clear HK7
                    rintro e w9 ⟨A9, c9, rfl, ho9, hf9⟩
                    have HF9 := Lib.hid (HFE.out.trans hf9)
                    clear ho9 hf9
                    go_wp2_with fail
                    have hd : (decide (0 < m) == decide (0 < j)) = true := by
                      have := HK0.out
                      rw [beq_iff_eq]
                      exact decide_eq_decide.2 (by omega)
                    go_ret
                    refine ⟨?_, HF9.out⟩
                    show Ending.returned (.bool (decide (0 < m) == decide (0 < j))) = _
                    rw [hd]

theorem paramsOk : ∀ t ∈ Try.f6.params.toList, Try.prog.readableRec t = true ∧ t < Try.prog.types.size := fun t ht => by
  have h := List.all_eq_true.1 (show (Try.f6.params.toList.all fun t => Try.prog.readableRec t && decide (t < Try.prog.types.size)) = true by kernel_rfl) t ht
  simpa using h

set_option maxRecDepth 100000 in
theorem lifted (os : Os) (started : os.Started) (H : Type) (enc : TypeId × Value → H) :
    ReturnsInHanded {} Try.checked os 6 .any (Rows.btreeNumbersSpec.pre6 enc Try.prog Try.f6 Rows.btreeNumbersRow.domain false) (Rows.btreeNumbersSpec.post enc Try.prog Try.f6 false true false false) := by
  refine returnsInHanded_of_change (C := Try.checked) own started (by kernel_rfl) Try.func6
    (ChangeSpec.witness6 (enc := enc) (C := Try.checked) false ⟨#[], #[.slice none 0 0], []⟩ 8 (by kernel_rfl) (by kernel_rfl) (by kernel_rfl) (by kernel_rfl)) ?_
  intro W base args ds gs before hval0 hW _ _
  have hval : ∀ (j : Nat) t v, Try.f6.params[j]? = some t → args[j]? = some v → Value.okWide Try.prog W .any base t v := hval0
  have hW' := hW
  obtain ⟨p, q, hA0, hV, rfl, _, _⟩ := hW
  have hA : DataW.TrodAll enc Try.prog W 0 (fun _ => true) true Try.f6.params.toList args.toList ds p := hA0
  rw [Try.params6] at hA hval
  obtain ⟨v0, vs0, d0, ds0, p0, q0, hargs, rfl, rfl, h0, r0⟩ := trodAll_cons hA
  obtain ⟨rfl, rfl, rfl⟩ := trodAll_nil r0
  obtain rfl : args = #[v0] := by cases args; simp_all
  obtain ⟨rfl, rfl⟩ := trodVars_none hV
  obtain ⟨A, c, l, rfl, hr, hA', hn, hm⟩ := open_ints1 (hval 0 _ v0 rfl rfl) h0
  have walk := walk W A c l hr (Nat.le_trans hn hm)
  clear hA0 hval0
  refine walk.mono fun e W' ⟨he, hf⟩ => ?_
  subst he
  exact ⟨_, rfl, law_post laidOut paramsOk rfl rfl Try.underlying4 hW' rfl rfl rfl hf⟩

theorem said : Rows.BtreeNumbersSaid :=
  OpenClaim.holds_of_wide 6 Try.f6 rfl rfl rfl rfl rfl rfl rfl ⟨rfl, rfl, rfl, rfl, rfl⟩ rfl rfl rfl rfl rfl (by kernel_rfl) Try.func6 (by kernel_rfl)
    (of_decide_eq_true (by kernel_rfl)) (by unfold Func.isWrapper; first | (rw [if_pos (by decide +kernel)]; kernel_rfl) | (rw [if_neg (by decide +kernel)]; exact ⟨rfl, rfl⟩))
    (fun os started H enc _ => lifted os started H enc)
end Go.Proofs.Ytcpgonioobgpoaa.btreeNumbers
