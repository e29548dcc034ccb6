/- NetFirst is true: parcels that are taken from the front come in the order in which they were sent, and what is dropped doesn't come. No condition. -/
import Derived.Test.YtdfmoijomnjdiaaLft
namespace Go.Proofs.Ytdfmoijomnjdiaa.netFirst
open Go.ChangeShapes Go.WideShapes Go.ChangeAt Go.RowKit Go.Maps Go.ChangeMaps Go.MapKept

set_option maxRecDepth 100000 in
set_option maxHeartbeats 8000000 in
theorem walk (w : World) (A : Option Addr) (c : Nat) (zs : List Int) (hr : Rd w A (icb zs)) (hA : A = none → c = 0) (hz : zs.length ≤ maxLen) (B : Option Addr) (d : Nat) (ks : List Int) (hr2 : Rd w B (icb ks)) (hk2 : ks.length ≤ maxLen) :
    Calls Try.prog 5 #[.slice A zs.length c, .slice B ks.length d] w fun e w' => e = .returned (.bool true) ∧ Fr NoBlk w w' := by
  obtain ⟨i0, hi, hz0, hz1, hz2⟩ := info_parts intInfo
  have HR : Hid (Rd w A (icb zs)) := hr
  have HR2 : Hid (Rd w B (icb ks)) := hr2
  have HZ : Hid (zs.length ≤ maxLen ∧ ks.length ≤ maxLen) := ⟨hz, hk2⟩
  have HA : Hid (A = none → c = 0) := hA
  clear hr hr2 hz hk2 hA
  go_enter Try.func5, Try.ntmps5
  go_wp2_with fail
  refine (speaks_any w).mono ?_
  rintro e w1 ⟨rfl, hf1⟩
  have HF1 := Lib.hid hf1
  clear hf1
  by_cases hb1 : 100 < zs.length
  · have hb1' : (100 : Int) < (zs.length : Int) := by omega
    go_wp2_with fail
    go_ret
    exact ⟨rfl, HF1.out⟩
  have hb1' : ¬ (100 : Int) < (zs.length : Int) := by omega
  by_cases hb2 : 100 < ks.length
  · have hb2' : (100 : Int) < (ks.length : Int) := by omega
    go_wp2_with fail
    go_ret
    exact ⟨rfl, HF1.out⟩
  have hb2' : ¬ (100 : Int) < (ks.length : Int) := by omega
  have HLE : Hid (zs.length ≤ 100 ∧ ks.length ≤ 100) := ⟨by omega, by omega⟩
  clear hb1 hb2
  go_wp2_with fail
  refine (nk_new w w1 (fun _ => False) HF1.out (noS w1)).mono ?_
  rintro e w2 ⟨g, rfl, hn, hf2⟩
  have HN2 := Lib.hid hn
  have HF2 : Hid (Fr NoBlk w w2) := HF1.out.trans hf2
  clear hn hf2 HF1 hb1' hb2'
  go_wp2_with (at_builtin; refine wpList_app rfl _ _ 47 rfl w2.heap.size 3 i0 (.int .i64 0) 8 Try.underlying47 hi hz0 hz1 hz2 rfl _ 0 [] rfl (World.ownsRow_made w2 #[] 0 (Nat.le_refl _) (by decide) rfl) A c zs.length (icb zs) rfl (icb_len zs) ?c1 (icb_one zs) ?c2 ?c3 ?c4 ?c5 ?_)
  case c1 => exact (HR.out.nofr HF2.out).alloc _
  case c2 => exact HA.out
  case c3 => have := HLE.out; unfold maxLen; omega
  case c4 => have := HLE.out; omega
  case c5 => simp
  intro v3 w3 ho3 hg3 _ hb3
  obtain ⟨A3, c3, rfl, _, _⟩ := own_form ho3
  have hf3 : Fr NoBlk w2 w3 := ((Fr.refl _ _).alloc _).grown hg3 (fun k hk hlt => by simp [Value.ownBlock] at hk; omega)
  have ho3' : w3.ownsRow w2.heap.size 3 1 (.slice A3 zs.length c3) zs.length (icb zs) := by simpa using ho3
  have HL : Hid (Lft w w3 A3 c3 zs g []) := ⟨(RowW.ofOwn ho3' (icb_one zs)).low HF2.out.size, (HN2.out.sub fun k hk => .inr (own_blk ho3' hk).1).nofr hf3, HF2.out.trans hf3⟩
  clear ho3 ho3' hg3 hb3 hf3 HN2 HF2 HA
  go_wp2_with fail
  go_loopw [34] (fun s wr => ∃ j : Nat, j ≤ zs.length ∧ s = .int .i64 (j : Int) ∧ Hid (Lft w wr A3 c3 zs g ((zs.take j).map pv1))) (fun s _ => zs.length - (intOf s).toNat)
  case atStart => exact ⟨0, by omega, rfl, HL⟩
  case round =>
    obtain ⟨j, hj, rfl, HJ⟩ := hrel
    by_cases hlt : j < zs.length
    · obtain ⟨x, hx⟩ : ∃ x, zs[j]? = some x := ⟨_, List.getElem?_eq_getElem hlt⟩
      obtain ⟨b, o, hA, hc⟩ := (HR.out.nofr HJ.out.fr).at_ (k := j) (v := .int .i64 x) (by rw [icb, List.getElem?_map, hx]; rfl)
      have HXJ := Lib.hid hx
      rw [hA]
      clear hA hx
      go_wp2_with fail
      refine (nk_send HJ.out.nk HJ.out.fr HJ.out.lt ⟨x, 0, 0, 0, 0, 0, none, 0, []⟩ (Rd.none_ _ _) (fun _ => rfl) (by simp)).mono ?_
      rintro e w4 ⟨hf, ⟨h4, _⟩ | ⟨_, rfl, hn⟩⟩
      · have := HLE.out; simp at h4; omega
      have HL4 : Hid (Lft w w4 A3 c3 zs g ((zs.take (j + 1)).map pv1)) := by
        refine HJ.out.step hf ?_
        rw [List.take_add_one, HXJ.out, List.map_append]
        exact hn
      clear hf hn hc
      go_wp2_with fail
      go_roundw
      case rel => exact ⟨j + 1, by omega, by go_num, HL4⟩
      case measure => simp [intOf]; omega
    · have HJE : Hid (Lft w wr A3 c3 zs g (zs.map pv1)) := by
        have h := HJ.out
        rw [List.take_of_length_le (by omega)] at h
        exact h
      clear HJ
      go_wp2_with fail
      go_loopw [6, 45] (fun s t wr => ∃ (j : Nat) (A4 : Option Addr) (c4 : Nat) (ls : List Int), j ≤ ks.length ∧ s = .slice A4 ls.length c4 ∧ t = .int .i64 (j : Int) ∧ Hid (ls.length ≤ 100) ∧ Hid (Lft w wr A4 c4 ls g (ls.map pv1))) (fun _ t _ => ks.length - (intOf t).toNat)
      case atStart => exact ⟨0, A3, c3, zs, by omega, rfl, rfl, HLE.out.1, HJE⟩
      case round =>
        obtain ⟨j, A4, c4, ls, hj, rfl, rfl, HLS, HJ⟩ := hrel
        by_cases hlt : j < ks.length
        · obtain ⟨x, hx⟩ : ∃ x, ks[j]? = some x := ⟨_, List.getElem?_eq_getElem hlt⟩
          obtain ⟨b, o, hB, hc⟩ := (HR2.out.nofr HJ.out.fr).at_ (k := j) (v := .int .i64 x) (by rw [icb, List.getElem?_map, hx]; rfl)
          have hvl : (ls.map pv1).length = ls.length := List.length_map ..
          have HDR := Lib.hid (nk_drop HJ.out.nk x)
          rw [hvl] at HDR
          rw [hB]
          clear hB hx hvl
          by_cases hh : hasB ls.length x = true
          · obtain ⟨i, rfl, hi'⟩ := hasB_true hh
            rw [hh, if_pos rfl] at HDR
            have hx0 : (0 : Int) ≤ (i : Int) := by omega
            have hx1 : (i : Int) < (ls.length : Int) := by omega
            clear hh
            go_wp2_with fail
            refine HDR.out.mono ?_
            rintro e w4 ⟨rfl, hf, hn⟩
            obtain ⟨q, rfl⟩ := HJ.out.row.some_ (by omega)
            have hcap := HJ.out.row.caps
            have hls := HLS.out
            have HL4 : Hid (Lft w w4 (some ⟨q, 0, none⟩) c4 ls g ((ls.eraseIdx i).map pv1)) := HJ.out.step hf (by rw [← map_erase]; exact hn)
            have HL5 := Lib.hid (HL4.out.nofr (Fr.refl NoBlk _).drew)
            obtain ⟨A6, c6, w6, hrun, hl6⟩ := HL5.out.cut hi' hls
            have HL6 := Lib.hid hl6
            have HLS6 : Hid ((ls.eraseIdx i).length ≤ 100) := by show _ ≤ _; rw [List.length_eraseIdx, if_pos hi']; omega
            have hw64 : IntKind.i64.wrap ((i : Int) + 1) = (i : Int) + 1 := by rw [IntWalk.i64_in _ (by omega)]
            have h1 : (0 : Int) ≤ (i : Int) + 1 := by omega
            have h2 : (i : Int) + 1 ≤ (ls.length : Int) := by omega
            have h3 : i ≤ c4 := by omega
            have h3' : (i : Int) ≤ (c4 : Int) := by omega
            have h4 : (ls.length : Int) ≤ (c4 : Int) := by omega
            have h5 : ls.length ≤ c4 := by omega
            have h6 : i + 1 ≤ ls.length := by omega
            have h7 : ((i : Int) + 1).toNat = i + 1 := by omega
            have h8 : (i : Int) ≤ (i : Int) + 1 := by omega
            clear hf hn HDR hl6 HJ HL4 HL5 hcap hc
            by_cases hci : c4 = i + 1
            · rw [if_pos hci] at hrun
              go_wp2_with fail
              go_region_law (refine step_appI rfl _ _ 47 47 rfl _ _ (by simp [Act.eval, Act.put]) (by simp [Act.eval, Act.put, hci]) hrun ?_)
              go_wp2_with fail
              go_roundw
              case rel => exact ⟨j + 1, A6, c6, _, by omega, rfl, by go_num, HLS6, HL6⟩
              case measure => simp [intOf]; omega
            · rw [if_neg hci] at hrun
              go_wp2_with fail
              go_region_law (refine step_appI rfl _ _ 47 47 rfl _ _ (by simp [Act.eval, Act.put]) (by simp [Act.eval, Act.put]) hrun ?_)
              go_wp2_with fail
              go_roundw
              case rel => exact ⟨j + 1, A6, c6, _, by omega, rfl, by go_num, HLS6, HL6⟩
              case measure => simp [intOf]; omega
          · have hh' : hasB ls.length x = false := by simpa using hh
            rw [hh', if_neg (by simp)] at HDR
            have HNO : Hid (x < 0 ∨ (ls.length : Int) ≤ x) := by
              show _ ∨ _
              simp only [hasB, Bool.and_eq_false_iff, decide_eq_false_iff_not] at hh'
              omega
            clear hh hh'
            by_cases hx0 : (0 : Int) ≤ x
            · have hx1 : ¬ x < (ls.length : Int) := by have := HNO.out; omega
              go_wp2_with fail
              refine HDR.out.mono ?_
              rintro e w4 ⟨rfl, hf, hn⟩
              have HL4 : Hid (Lft w w4 A4 c4 ls g (ls.map pv1)) := HJ.out.step hf hn
              clear hf hn HDR HJ hc
              go_wp2_with fail
              go_roundw
              case rel => exact ⟨j + 1, A4, c4, ls, by omega, rfl, by go_num, HLS, HL4⟩
              case measure => simp [intOf]; omega
            · go_wp2_with fail
              refine HDR.out.mono ?_
              rintro e w4 ⟨rfl, hf, hn⟩
              have HL4 : Hid (Lft w w4 A4 c4 ls g (ls.map pv1)) := HJ.out.step hf hn
              clear hf hn HDR HJ hc
              go_wp2_with fail
              go_roundw
              case rel => exact ⟨j + 1, A4, c4, ls, by omega, rfl, by go_num, HLS, HL4⟩
              case measure => simp [intOf]; omega
        · go_wp2_with fail
          go_loopw [75] (fun s wr => ∃ j : Nat, j ≤ ls.length ∧ s = .int .i64 (j : Int) ∧ Hid (Lft w wr A4 c4 ls g ((ls.drop j).map pv1))) (fun s _ => ls.length - (intOf s).toNat)
          case atStart => exact ⟨0, by omega, rfl, HJ⟩
          case round =>
            obtain ⟨j, hj, rfl, HK⟩ := hrel
            by_cases hlt : j < ls.length
            · obtain ⟨x, hx⟩ : ∃ x, ls[j]? = some x := ⟨_, List.getElem?_eq_getElem hlt⟩
              obtain ⟨b, o, hB, hc⟩ := HK.out.row.rd.at_ (k := j) (v := .int .i64 x) (by rw [icb, List.getElem?_map, hx]; rfl)
              have hdx : ls.drop j = x :: ls.drop (j + 1) := by
                obtain ⟨h1, h2⟩ := List.getElem?_eq_some_iff.1 hx
                rw [← h2]
                exact List.drop_eq_getElem_cons h1
              have HTK := Lib.hid (nk_take HK.out.nk 0)
              have HDX := Lib.hid hdx
              have hls := HLS.out
              subst hB
              clear hx hdx
              go_wp2_with fail
              refine HTK.out.mono ?_
              rintro e w4 ⟨hf, ⟨_, p, hp, rfl, _, hn⟩ | ⟨hb, _⟩⟩
              rotate_left
              · rw [HDX.out] at hb
                simp [hasB] at hb
              rw [HDX.out] at hp hn
              simp only [List.map_cons, Int.toNat_zero, List.getElem?_cons_zero, Option.some.injEq, List.eraseIdx_cons_zero] at hp hn
              have hps : p.src = x := (congrArg (fun q => q.1) hp).symm
              subst hps
              have HL4 : Hid (Lft w (w4.alloc (.cells (pca p) 35)) (some ⟨b, o, none⟩) c4 ls g ((ls.drop (j + 1)).map pv1)) := (HK.out.step hf hn).nofr ((Fr.refl _ _).alloc _)
              have hne : (p.src != p.src) = false := by simp
              unfold pca at HL4
              clear hf hn hp HTK HDX HK hc
              go_wp2_with fail
              go_roundw
              case rel => exact ⟨j + 1, by omega, by go_num, HL4⟩
              case measure => simp [intOf]; omega
            · have HLN := Lib.hid (nk_len HK.out.nk)
              have hdl : ((ls.drop j).map pv1).length = 0 := by simp; omega
              rw [hdl] at HLN
              clear hdl
              go_wp2_with fail
              refine HLN.out.mono ?_
              rintro e w' ⟨rfl, rfl⟩
              go_wp2_with fail
              go_ret
              exact ⟨rfl, HK.out.fr⟩

theorem paramsOk : ∀ t ∈ Try.f5.params.toList, Try.prog.readableRec t = true ∧ t < Try.prog.types.size := fun t ht => by
  have h := List.all_eq_true.1 (show (Try.f5.params.toList.all fun t => Try.prog.readableRec t && decide (t < Try.prog.types.size)) = true by kernel_rfl) t ht
  simpa using h

set_option maxRecDepth 100000 in
theorem lifted (os : Os) (started : os.Started) (H : Type) (enc : TypeId × Value → H) :
    ReturnsInHanded {} Try.checked os 5 .any (Rows.netFirstSpec.pre6 enc Try.prog Try.f5 Rows.netFirstRow.domain false) (Rows.netFirstSpec.post enc Try.prog Try.f5 false true false false) := by
  refine returnsInHanded_of_change (C := Try.checked) own started (by kernel_rfl) Try.func5
    (ChangeSpec.witness6 (enc := enc) (C := Try.checked) false ⟨#[], #[.slice none 0 0, .slice none 0 0], []⟩ 8 (by kernel_rfl) (by kernel_rfl) (by kernel_rfl) (by kernel_rfl)) ?_
  intro W base args ds gs before hval0 hW _ _
  have hval : ∀ (j : Nat) t v, Try.f5.params[j]? = some t → args[j]? = some v → Value.okWide Try.prog W .any base t v := hval0
  have hW' := hW
  obtain ⟨p, q, hA0, hV, rfl, _, _⟩ := hW
  have hA : DataW.TrodAll enc Try.prog W 0 (fun _ => true) true Try.f5.params.toList args.toList ds p := hA0
  rw [Try.params5] at hA hval
  obtain ⟨v0, vs0, d0, ds0, p0, q0, hargs, rfl, rfl, h0, r0⟩ := trodAll_cons hA
  obtain ⟨v1, vs1, d1, ds1, p1, q1, rfl, rfl, rfl, h1, r1⟩ := trodAll_cons r0
  obtain ⟨rfl, rfl, rfl⟩ := trodAll_nil r1
  obtain rfl : args = #[v0, v1] := by cases args; simp_all
  obtain ⟨rfl, rfl⟩ := trodVars_none hV
  obtain ⟨A, c, zs, rfl, hr, hA1, hc, hm⟩ := open_ints1 (hval 0 _ v0 rfl rfl) h0
  obtain ⟨B, d, ks, rfl, hr2, _, hc2, hm2⟩ := open_ints1 (hval 1 _ v1 rfl rfl) h1
  have walk := walk W A c zs hr hA1 (by omega) B d ks hr2 (by omega)
  clear hA0 hval0
  refine walk.mono fun e W' ⟨he, hf⟩ => ?_
  subst he
  exact ⟨_, rfl, law_post laidOut paramsOk rfl rfl Try.underlying4 hW' rfl rfl rfl hf⟩

theorem said : Rows.NetFirstSaid :=
  OpenClaim.holds_of_wide 5 Try.f5 rfl rfl rfl rfl rfl rfl rfl ⟨rfl, rfl, rfl, rfl, rfl⟩ rfl rfl rfl rfl rfl (by kernel_rfl) Try.func5 (by kernel_rfl)
    (of_decide_eq_true (by kernel_rfl)) (by unfold Func.isWrapper; first | (rw [if_pos (by decide +kernel)]; kernel_rfl) | (rw [if_neg (by decide +kernel)]; exact ⟨rfl, rfl⟩))
    (fun os started H enc _ => lifted os started H enc)
end Go.Proofs.Ytdfmoijomnjdiaa.netFirst
