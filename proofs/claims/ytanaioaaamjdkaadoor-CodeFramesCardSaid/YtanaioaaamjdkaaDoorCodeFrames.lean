/- CodeFrames is true: any bytes are put into a frame, or refused, any bytes are read as a frame, or refused, just as the document says; they stay. No condition but what the card ties. -/
import Derived.Test.YtanaioaaamjdkaaDoorOpen
import Derived.Test.YtanaioaaamjdkaaDoorSpeaks
import Derived.Test.YtanaioaaamjdkaaDoorLaw
import Derived.Test.YtanaioaaamjdkaaDoorDUnframe
namespace Go.Proofs.YtanaioaaamjdkaaDoor.codeFrames
open Go.ChangeShapes Go.WideShapes Go.ChangeAt Go.RowKit

theorem strBs (w : World) (A : Option Addr) (n c : Nat) (l : List UInt8) (hn : n = l.length) (hr : Rd w A (cb l)) :
    (convert 26 9 (.slice A n c)).run Tryd.prog w = .ok (.string (bs l)) w :=
  run_str w _ _ 5 Tryd.underlying26 Tryd.underlying5 Tryd.underlying9 A c l n hn hr

set_option maxRecDepth 100000 in
set_option maxHeartbeats 4000000 in
theorem walk (w : World) (ht : Tab w) (A : Option Addr) (c : Nat) (l : List UInt8) (B : Option Addr) (d : Nat) (r : List UInt8) (hr : Rd w A (cb l)) (hs : Rd w B (cb r)) (hA : A = none → c = 0) (hB : B = none → d = 0)
    (hlc : l.length ≤ c) (hrd : r.length ≤ d) (hm : l.length ≤ maxLen) (hm2 : r.length ≤ maxLen) :
    Calls Tryd.prog 7 #[.slice A l.length c, .slice B r.length d] w fun e w' => e = .returned (.bool true) ∧ Fr NoBlk w w' := by
  have HT := Lib.hid ht
  have HL := Lib.hid hr
  have HR := Lib.hid hs
  have HA := Lib.hid hA
  have HB := Lib.hid hB
  have HLC := Lib.hid hlc
  have HRD := Lib.hid hrd
  clear ht hr hs hA hB hlc hrd
  unfold maxLen at hm hm2
  obtain ⟨i0, hi, iz0, iz1, iz2⟩ := info_parts byteInfo
  by_cases hb1 : 6000 < l.length
  · go_enter Tryd.func7, Tryd.ntmps7
    go_wp2_with fail
    refine (speaks_any w HT.out).mono ?_
    rintro e w1 ⟨rfl, hf⟩
    have HF := Lib.hid hf
    clear hf
    go_wp2_with fail
    go_ret
    exact ⟨rfl, HF.out⟩
  by_cases hb2 : 6000 < r.length
  · go_enter Tryd.func7, Tryd.ntmps7
    go_wp2_with fail
    refine (speaks_any w HT.out).mono ?_
    rintro e w1 ⟨rfl, hf⟩
    have HF := Lib.hid hf
    clear hf
    go_wp2_with fail
    go_ret
    exact ⟨rfl, HF.out⟩
  go_enter Tryd.func7, Tryd.ntmps7
  go_wp2_with fail
  refine (speaks_any w HT.out).mono ?_
  rintro e w1 ⟨rfl, hf⟩
  have HF1 := Lib.hid hf
  have HL1 : Hid (Rd (w1.alloc (.cells #[] 5)) A (cb l)) := (HL.out.nofr hf).alloc _
  clear hf
  go_wp2_with (at_builtin; refine wpList_app rfl (.tmp 30) (.tmp 31) 26 rfl w1.heap.size 5 i0 (.int .u8 0) 1 Tryd.underlying26 hi iz0 iz1 iz2 rfl _ 0 [] rfl (World.ownsRow_made w1 #[] 0 (Nat.le_refl _) (by decide) rfl) A c l.length (cb l) rfl (cb_length l) HL1.out (cb_one _) HA.out (by unfold maxLen; omega) (by omega) (by simp) ?_)
  intro v2 w2 ho2 hg2 _ hb2'
  obtain ⟨A2, c2, rfl, hc2, hA2⟩ := own_form ho2
  have HF2 := Lib.hid ((HF1.out.alloc (.cells #[] 5)).grown hg2 (fun k hk hlt => by have := HF1.out.size; simp [Value.ownBlock] at hk; omega))
  have HL2 : Hid (Rd w2 A2 (cb l)) := Rd.of_own ho2
  have HC2 : Hid (l.length ≤ c2) := by show _ ≤ _; omega
  have HA2 := Lib.hid hA2
  have HR2 : Hid (Rd (w2.alloc (.cells #[] 5)) B (cb r)) := (HR.out.nofr HF2.out).alloc _
  clear ho2 hg2 hb2' hc2 hA2 HL1
  go_wp2_with (at_builtin; refine wpList_app rfl (.tmp 33) (.tmp 34) 26 rfl w2.heap.size 5 i0 (.int .u8 0) 1 Tryd.underlying26 hi iz0 iz1 iz2 rfl _ 0 [] rfl (World.ownsRow_made w2 #[] 0 (Nat.le_refl _) (by decide) rfl) B d r.length (cb r) rfl (cb_length r) HR2.out (cb_one _) HB.out (by unfold maxLen; omega) (by omega) (by simp) ?_)
  intro v3 w3 ho3 hg3 _ hb3'
  obtain ⟨B3, d3, rfl, hd3, hB3⟩ := own_form ho3
  have hf23 : Fr NoBlk w2 w3 := ((Fr.refl NoBlk w2).alloc (.cells #[] 5)).grown hg3 (fun k hk hlt => by simp [Value.ownBlock] at hk; omega)
  have HF3 := Lib.hid (HF2.out.trans hf23)
  have HL3 := Lib.hid (HL2.out.nofr hf23)
  have HR3 : Hid (Rd w3 B3 (cb r)) := Rd.of_own ho3
  have HD3 : Hid (r.length ≤ d3) := by show _ ≤ _; omega
  have HB3 := Lib.hid hB3
  clear ho3 hg3 hb3' hd3 hB3 hf23 HR2 HL2 HF2 HF1
  obtain ⟨u, hu⟩ : ∃ u, u = unfr r := ⟨_, rfl⟩
  have K3 := Lib.hid fun W (hf : Fr NoBlk w3 W) => unframe_any W (HT.out.fr (HF3.out.trans hf) (fun h => h)) B3 _ d3 r rfl (HR3.out.nofr hf) HB3.out (by omega) HD3.out
  have K4 := Lib.hid fun W (hf : Fr NoBlk w W) => dunframe_any W B _ d r rfl (HR.out.nofr hf) HB.out (by omega) HRD.out
  rw [← hu] at K3 K4
  obtain ⟨ub, un, ue⟩ := u
  clear hu
  have s7 := Lib.hid fun W (hf : Fr NoBlk w3 W) => strBs W A2 _ c2 l rfl (HL3.out.nofr hf)
  have s8 := Lib.hid fun W (hf : Fr NoBlk w W) => strBs W A _ c l rfl (HL.out.nofr hf)
  have s9 := Lib.hid fun W (hf : Fr NoBlk w3 W) => strBs W B3 _ d3 r rfl (HR3.out.nofr hf)
  have s10 := Lib.hid fun W (hf : Fr NoBlk w W) => strBs W B _ d r rfl (HR.out.nofr hf)
  have e1 : ((ue : Int) != (ue : Int)) = false := by simp
  have e2 : ((un : Int) != (un : Int)) = false := by simp
  have f1 := bs_toList l
  have f2 := bs_toList r
  have f3 := bs_toList ub
  by_cases hl : 4096 < l.length
  · go_wp2_with fail
    refine (frame_long w3 A2 _ c2 hl).mono ?_
    rintro e w4 ⟨rfl, rfl⟩
    go_wp2_with fail
    refine (dframe_long _ A _ c hl).mono ?_
    rintro e w5 ⟨A5, c5, rfl, hf5⟩
    have HF5 := Lib.hid hf5
    clear hf5
    go_wp2_with fail
    refine (K3.out _ HF5.out).mono ?_
    rintro e w6 ⟨v6, he6, hn6⟩
    obtain ⟨A6, c6, rfl, _, _⟩ := own_form hn6.own
    dsimp only at he6 hn6
    subst he6
    have HN6 := Lib.hid hn6
    have HF6 := Lib.hid (HF5.out.trans hn6.fr)
    clear hn6
    go_wp2_with fail
    refine (K4.out _ (HF3.out.trans HF6.out)).mono ?_
    rintro e w7 ⟨v7, he7, hn7⟩
    obtain ⟨A7, c7, rfl, _, _⟩ := own_form hn7.own
    dsimp only at he7 hn7
    subst he7
    have HF7 := Lib.hid (HF6.out.trans hn7.fr)
    have t1 := strBs w7 A6 _ c6 ub rfl ((Rd.of_own HN6.out.own).nofr hn7.fr)
    have t2 := strBs w7 A7 _ c7 ub rfl (Rd.of_own hn7.own)
    have t3 := s7.out w7 HF7.out
    have t4 := s8.out w7 (HF3.out.trans HF7.out)
    have t5 := s9.out w7 HF7.out
    have t6 := s10.out w7 (HF3.out.trans HF7.out)
    have t7 := strBs w7 none 0 0 [] rfl (Rd.none_ _ _)
    have t8 := strBs w7 A5 0 c5 [] rfl (Rd.none_ _ _)
    clear hn7
    go_wp2_with fail
    go_ret
    exact ⟨rfl, HF3.out.trans HF7.out⟩
  · obtain ⟨F, hF⟩ : ∃ F, F = frameOf l := ⟨_, rfl⟩
    have hFl : F.length = 6 + l.length := by rw [hF, frameOf_len]
    have hm8 : F.length ≤ 5000 := by omega
    have K1 := Lib.hid (frame_any w3 (HT.out.fr HF3.out (fun h => h)) A2 _ c2 l rfl HL3.out HA2.out (by omega))
    have K2 := Lib.hid fun W (hf : Fr NoBlk w W) => dframe_any W A _ c l rfl (HL.out.nofr hf) HA.out (by omega)
    have HUF : Hid (unfr (F ++ r) = (l, F.length, 0)) := by show _ = _; rw [hFl, hF]; exact unfr_frame l r (by omega)
    unfold FrPost at K2
    rw [← hF] at K1 K2
    have f4 := bs_toList F
    clear hF hFl
    go_wp2_with fail
    refine K1.out.mono ?_
    rintro e w4 ⟨v4, rfl, hn4⟩
    obtain ⟨A4, c4, rfl, hc4, hA4⟩ := own_form hn4.own
    have HN4 := Lib.hid hn4
    have HC4 := Lib.hid hc4
    have HA4 := Lib.hid hA4
    clear hn4 hc4 hA4
    go_wp2_with fail
    refine (K2.out _ (HF3.out.trans HN4.out.fr)).mono ?_
    rintro e w5 ⟨v5, rfl, hn5⟩
    obtain ⟨A5, c5, rfl, _, _⟩ := own_form hn5.own
    have HN5 := Lib.hid hn5
    have HF5 := Lib.hid (HN4.out.fr.trans hn5.fr)
    clear hn5 K1 K2
    go_wp2_with fail
    refine (K3.out _ HF5.out).mono ?_
    rintro e w6 ⟨v6, he6, hn6⟩
    obtain ⟨A6, c6, rfl, _, _⟩ := own_form hn6.own
    dsimp only at he6 hn6
    subst he6
    have HN6 := Lib.hid hn6
    have HF56 := Lib.hid hn6.fr
    have HF6 := Lib.hid (HF5.out.trans hn6.fr)
    clear hn6
    go_wp2_with fail
    refine (K4.out _ (HF3.out.trans HF6.out)).mono ?_
    rintro e w7 ⟨v7, he7, hn7⟩
    obtain ⟨A7, c7, rfl, _, _⟩ := own_form hn7.own
    dsimp only at he7 hn7
    subst he7
    have HF7 := Lib.hid (HF6.out.trans hn7.fr)
    have HF57 := Lib.hid (HF56.out.trans hn7.fr)
    have t1 := strBs w7 A6 _ c6 ub rfl ((Rd.of_own HN6.out.own).nofr hn7.fr)
    have t2 := strBs w7 A7 _ c7 ub rfl (Rd.of_own hn7.own)
    have t3 := s7.out w7 HF7.out
    have t4 := s8.out w7 (HF3.out.trans HF7.out)
    have t5 := s9.out w7 HF7.out
    have t6 := s10.out w7 (HF3.out.trans HF7.out)
    have t7 := strBs w7 A4 _ c4 F rfl (((Rd.of_own HN4.out.own).nofr HN5.out.fr).nofr HF57.out)
    have t8 := strBs w7 A5 _ c5 F rfl ((Rd.of_own HN5.out.own).nofr HF57.out)
    have HRF : Hid (Rd (w7.alloc (.cells #[] 5)) A4 (cb F)) := (((Rd.of_own HN4.out.own).nofr HN5.out.fr).nofr HF57.out).alloc _
    have HF37 := Lib.hid (HF3.out.trans HF7.out)
    clear hn7
    go_wp2_with (at_builtin; refine wpList_app rfl (.tmp 102) (.tmp 103) 26 rfl w7.heap.size 5 i0 (.int .u8 0) 1 Tryd.underlying26 hi iz0 iz1 iz2 rfl _ 0 [] rfl (World.ownsRow_made w7 #[] 0 (Nat.le_refl _) (by decide) rfl) A4 c4 F.length (cb F) rfl (cb_length F) HRF.out (cb_one _) HA4.out (by unfold maxLen; omega) (by omega) (by simp) ?_)
    intro v8 w8 ho8 hg8 _ _
    have HO8 : Hid (w8.ownsRow w7.heap.size 5 1 v8 F.length (cb F)) := by show World.ownsRow _ _ _ _ _ _ _; simpa using ho8
    have HF8 := Lib.hid ((HF37.out.alloc (.cells #[] 5)).grown hg8 (fun k hk hlt => by have := HF37.out.size; simp [Value.ownBlock] at hk; omega))
    have HS8 : Hid (w7.heap.size ≤ w8.heap.size) := by have := hg8.size; simp at this; show _ ≤ _; omega
    have HR8 := Lib.hid (HR.out.nofr HF8.out)
    clear ho8 hg8 t1 t2 t3 t4 t5 t6 t7 t8
    go_wp2_with (at_builtin; refine wpList_app rfl (.tmp 104) (.tmp 105) 26 rfl w7.heap.size 5 i0 (.int .u8 0) 1 Tryd.underlying26 hi iz0 iz1 iz2 rfl _ F.length (cb F) rfl HO8.out B d r.length (cb r) rfl (cb_length r) HR8.out (cb_one _) HB.out (by unfold maxLen; omega) (by omega) HS8.out ?_)
    intro v9 w9 ho9 hg9 _ _
    obtain ⟨A9, c9, rfl, hc9, hA9⟩ := own_form ho9
    have HF9 := Lib.hid (HF8.out.grown hg9 (fun k hk hlt => by have := HF37.out.size; exact absurd (HO8.out.lt k hk).1 (by omega)))
    have hrd9 : Rd w9 A9 (cb (F ++ r)) := by rw [cb_append]; exact Rd.of_own ho9
    have K5 := Lib.hid (unframe_any w9 (HT.out.fr HF9.out (fun h => h)) A9 (F.length + r.length) c9 (F ++ r) (by rw [List.length_append]) hrd9 hA9 (by rw [List.length_append]; omega) hc9)
    rw [HUF.out] at K5
    clear ho9 hg9 hc9 hA9 hrd9
    go_wp2_with fail
    refine K5.out.mono ?_
    rintro e wa ⟨va, hea, hna⟩
    obtain ⟨Aa, ca, rfl, _, _⟩ := own_form hna.own
    dsimp only at hea hna
    subst hea
    have HFa := Lib.hid (HF9.out.trans hna.fr)
    have t1 := strBs wa Aa _ ca l rfl (Rd.of_own hna.own)
    have t4 := s8.out wa HFa.out
    have K6 := Lib.hid (sum_any wa (HT.out.fr HFa.out (fun h => h)) r B _ d rfl (by omega) (HR.out.nofr HFa.out))
    have K7 := Lib.hid fun W (hf : Fr NoBlk w W) => dsum_any W B _ d r rfl (HR.out.nofr hf) (by omega)
    generalize (Crc.crc r).toNat = cr at K6 K7
    clear hna K5
    go_wp2_with fail
    refine K6.out.mono ?_
    rintro e wb ⟨rfl, rfl⟩
    go_wp2_with fail
    refine (K7.out _ HFa.out).mono ?_
    rintro e wc ⟨rfl, hfc⟩
    have HFc := Lib.hid (HFa.out.trans hfc)
    clear hfc
    go_wp2_with fail
    go_ret
    exact ⟨rfl, HFc.out⟩

theorem paramsOk : ∀ t ∈ Tryd.f7.params.toList, Tryd.prog.readableRec t = true ∧ t < Tryd.prog.types.size := fun t ht => by
  have h := List.all_eq_true.1 (show (Tryd.f7.params.toList.all fun t => Tryd.prog.readableRec t && decide (t < Tryd.prog.types.size)) = true by kernel_rfl) t ht
  simpa using h
theorem paramsPlain : ∀ (j : Nat) t, Tryd.f7.params[j]? = some t → Tryd.prog.wantsStandIn t = false := fun j t ht => by
  have h := List.all_eq_true.1 (show (Tryd.f7.params.toList.all fun t => !Tryd.prog.wantsStandIn t) = true by kernel_rfl) t (by simpa using Array.mem_of_getElem? ht)
  simpa using h

theorem contract (H : Type) (enc : TypeId × Value → H) (W : World) (args : Array Value) (ds gs : List (DataW H)) (before : List MemPlace)
    (base : Nat) (hval : ∀ (j : Nat) t v, Tryd.f7.params[j]? = some t → args[j]? = some v → Value.okWide Tryd.prog W .any base t v)
    (hW : DataW.Whole enc Tryd.prog Tryd.f7.params.toList Rows.codeFramesSpec.vars false W args.toList ds gs before) (hL : laidMetH Tryd.prog Rows.codeFramesRow.laid W) :
    Calls Tryd.prog 7 args W fun e W' => ∃ v, e = .returned v ∧ Rows.codeFramesSpec.post enc Tryd.prog Tryd.f7 false true false false W args v W' := by
  have hW' := hW
  obtain ⟨p, q, hA, hV, rfl, _, _⟩ := hW
  rw [Tryd.params7] at hA hval
  obtain ⟨v0, vs0, d0, ds0, p0, q0, hargs, rfl, rfl, h0, r0⟩ := trodAll_cons hA
  obtain ⟨v1, vs1, d1, ds1, p1, q1, rfl, rfl, rfl, h1, r1⟩ := trodAll_cons r0
  obtain ⟨rfl, rfl, rfl⟩ := trodAll_nil r1
  obtain rfl : args = #[v0, v1] := by cases args; simp_all
  obtain ⟨rfl, rfl⟩ := trodVars_none hV
  obtain ⟨A, c, l, rfl, hr, hA', hlc, hcm⟩ := open_bytes (hval 0 _ v0 rfl rfl) h0
  obtain ⟨B, d, r, rfl, hs, hB', hrd, hdm⟩ := open_bytes (hval 1 _ v1 rfl rfl) h1
  have walk := walk W (table hL) A c l B d r hr hs hA' hB' hlc hrd (by omega) (by omega)
  refine walk.mono fun e W' ⟨he, hf⟩ => ?_
  subst he
  exact ⟨_, rfl, law_post laidOut paramsOk rfl rfl Tryd.underlying4 hW' rfl rfl rfl hf⟩

theorem laid_met (os : Os) : laidMet Tryd.prog Rows.codeFramesRow.laid ((laidWorld os).forCall (fun _ _ => 0) ⟨#[], #[.slice none 0 0, .slice none 0 0], []⟩).memory :=
  laidMet_of_run' 20 (by kernel_rfl) (by kernel_rfl)
theorem reads (os : Os) {H : Type} (enc : TypeId × Value → H) : ∃ places, DataW.whole enc Tryd.prog ((laidWorld os).forCall (fun _ _ => 0) ⟨#[], #[.slice none 0 0, .slice none 0 0], []⟩).memory Tryd.f7.params.toList Rows.codeFramesSpec.vars false (#[.slice none 0 0, .slice none 0 0] : Array Value).toList 8 = some ([.nil, .nil], [], places) :=
  ⟨[], by kernel_rfl⟩

set_option maxRecDepth 100000 in
theorem lifted (os : Os) (started : os.Started) (H : Type) (enc : TypeId × Value → H) (F : Stop.Interp) :
    ReturnsInHanded {} Tryd.checked os 7 .any ((OpenSpec.ofChange Rows.codeFramesSpec).preRow enc Tryd.prog Tryd.f7 Rows.codeFramesRow.domain false Rows.codeFramesRow.laid) (((OpenSpec.ofChange Rows.codeFramesSpec).at F).post enc Tryd.prog Tryd.f7 false true false false) := by
  obtain ⟨places, hx⟩ := reads os enc
  refine returnsInHanded_of_row (C := Tryd.checked) (s := OpenSpec.ofChange Rows.codeFramesSpec) own started (by kernel_rfl) Tryd.func7
    (witness_row_at (enc := enc) (C := Tryd.checked) false (laidWorld os) #[.slice none 0 0, .slice none 0 0] rfl (by kernel_rfl) (by kernel_rfl) (by kernel_rfl)
      (OpenSpec.preRow_of_cond 8 hx (by kernel_rfl) (fun k hk => by cases hk) (by kernel_rfl) (laid_met os))) ?_
  intro W base args ds gs before hval hW _ _ _ hL _ _
  exact contract H enc W args ds gs before base hval hW hL

theorem said : Rows.CodeFramesSaid :=
  OpenClaim.holds_of_cond 7 Tryd.f7 rfl rfl rfl rfl rfl rfl rfl ⟨rfl, rfl, rfl, rfl, rfl⟩ rfl rfl rfl rfl rfl (by kernel_rfl) Tryd.func7 (by kernel_rfl)
    (of_decide_eq_true (by kernel_rfl)) (by unfold Func.isWrapper; first | (rw [if_pos (by decide +kernel)]; kernel_rfl) | (rw [if_neg (by decide +kernel)]; exact ⟨rfl, rfl⟩))
    (fun os started H enc _ F => by rw [OpenClaim.pre_eq_preRow]; exact lifted os started H enc F)

theorem plain (f : FuncId) (fn : Func) (hf : Tryd.pinned.checked.prog.funcNamed "argosy/argosylaw01.CodeFrames" = some f) (hfn : Tryd.pinned.checked.prog.funcs[f]? = some fn) :
    false = Tryd.pinned.checked.prog.looks [] ∧ ∀ (j : Nat) t, fn.params[j]? = some t → Tryd.pinned.checked.prog.wantsStandIn t = false := by
  obtain rfl : f = 7 := Option.some.inj ((show Tryd.prog.funcNamed "argosy/argosylaw01.CodeFrames" = some 7 by kernel_rfl).symm.trans hf) |>.symm
  obtain rfl : fn = Tryd.f7 := (Option.some.inj (Tryd.func7.symm.trans hfn)).symm
  exact ⟨by kernel_rfl, paramsPlain⟩

theorem card : Rows.CodeFramesCardSaid :=
  Claim7.holds_tied_plain_at .later [] _ _ _ _ said (fun _ h => by cases h) (by kernel_rfl) (fun _ h => by cases h) codeFrames_row_tie rfl ⟨rfl, rfl⟩ (by kernel_rfl) rfl plain (by kernel_rfl)
end Go.Proofs.YtanaioaaamjdkaaDoor.codeFrames
