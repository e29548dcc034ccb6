/- WireCuts is true: a message's bytes cut off, or with more behind them, are none. No condition but what the card ties. -/
import Derived.Test.YtdpjmkgjjhcgeaaDoorOpenM
import Derived.Test.YtdpjmkgjjhcgeaaDoorGr18
import Derived.Test.YtdpjmkgjjhcgeaaDoorRead18
import Derived.Test.YtdpjmkgjjhcgeaaDoorNum2
namespace Go.Proofs.YtdpjmkgjjhcgeaaDoor.wireCuts
open Go.ChangeShapes Go.WideShapes Go.ChangeAt Go.RowKit

set_option maxRecDepth 100000 in
set_option maxHeartbeats 16000000 in
theorem walk (w : World) (ht : Tab w) (m : Mg) (cut : Int) (A : Option Addr) (c : Nat) (more : Bs) (hm : MgIn w m) (hr : Rd w A (cb more)) (hA : A = none → c = 0) (hml : more.length ≤ 9223372036854775807) : Calls Tryd.prog 7 #[mgv m, .int .i64 cut, .slice A more.length c] w fun e w' => e = .returned (.bool true) ∧ Fr NoBlk w w' := by
  obtain ⟨i0, hi, hz0, hz1, hz2⟩ := info_parts byteInfo
  obtain ⟨q, hq, eq⟩ := i64_low cut 16 (by omega)
  rw [show ((2 ^ 16 - 1 : Nat) : Int) = 65535 from rfl] at eq
  obtain ⟨w0, hw0⟩ : ∃ w0, w0 = w.alloc (.cells (mga m) 26) := ⟨_, rfl⟩
  have HF0 : Hid (Fr NoBlk w w0) := by
    show Fr _ _ _
    rw [hw0]
    exact (Fr.refl _ _).alloc _
  have HB0 : Hid (Bk w0 w.heap.size 26 (mga m)) := by
    show Bk _ _ _ _
    rw [hw0]
    exact Bk.new w _ _
  have HM := Lib.hid hm
  have HT := Lib.hid ht
  have HRM := Lib.hid hr
  have HAM := Lib.hid hA
  clear hm ht hr hA
  unfold mga at hw0
  unfold mgv mga
  go_enter Tryd.func7, Tryd.ntmps7
  go_wp2_with fail
  rw [← hw0]
  clear hw0
  refine (speaks_any _ (HT.out.fr HF0.out fun h => h)).mono ?_
  rintro e w1 ⟨rfl, hf1⟩
  have HF1 := Lib.hid (HF0.out.trans hf1)
  have HB1 := Lib.hid (HB0.out.fr hf1 (fun h => h))
  clear hf1 HB0 HF0
  obtain ⟨p0, p1, p2, p3, p4, p5, p6, p7⟩ := HB1.out.msg
  have HG1 := Lib.hid (great_any w1 m (HM.out.nofr HF1.out))
  unfold mgv mga at HG1
  go_wp2_with fail
  refine HG1.out.mono ?_
  rintro e w2 ⟨⟨bb, rfl, hsa⟩, hf2⟩
  have HF2 := Lib.hid (HF1.out.trans hf2)
  have HB2 := Lib.hid (HB1.out.fr hf2 (fun h => h))
  have HSM := Lib.hid hsa
  clear p0 p1 p2 p3 p4 p5 p6 p7 hf2 HB1 HF1 hsa HG1
  cases bb
  rotate_left
  · go_wp2_with fail
    go_ret
    exact ⟨rfl, HF2.out⟩
  by_cases hbig : 100 < more.length
  · have hbig' : (100 : Int) < (more.length : Int) := by omega
    go_wp2_with fail
    go_ret
    exact ⟨rfl, HF2.out⟩
  have hbig' : ¬ (100 : Int) < (more.length : Int) := by omega
  obtain ⟨p0, p1, p2, p3, p4, p5, p6, p7⟩ := HB2.out.msg
  by_cases hra : rightM m = true
  rotate_left
  · have HW := Lib.hid (write_bad w2 (HT.out.fr HF2.out fun h => h) m (HM.out.nofr HF2.out) hra)
    unfold mgv mga at HW
    clear hra
    go_wp2_with fail
    refine HW.out.mono ?_
    rintro e w3 ⟨rfl, hf3⟩
    have HF3 := Lib.hid (HF2.out.trans hf3)
    clear hf3 HW p0 p1 p2 p3 p4 p5 p6 p7
    go_wp2_with fail
    go_ret
    exact ⟨rfl, HF3.out⟩
  have HW := Lib.hid (write_ok w2 (HT.out.fr HF2.out fun h => h) m (HM.out.nofr HF2.out) hra)
  unfold mgv mga at HW
  go_wp2_with fail
  refine HW.out.mono ?_
  clear HW p0 p1 p2 p3 p4 p5 p6 p7 hbig'
  rintro e w3 ⟨v4, rfl, hn4⟩
  obtain ⟨A4, c4, rfl, hc4, hA4⟩ := own_form hn4.own
  have HR4 := Lib.hid (Rd.of_own hn4.own)
  have HA4 := Lib.hid hA4
  have HF3 := Lib.hid (HF2.out.trans hn4.fr)
  have hwm := rightM_wmg hra
  have hlen := msgB_len hwm HM.out.nums
  have hpos : 0 < (msgB m).length := by
    unfold msgB
    rw [List.length_append]
    have := List.length_pos_iff.2 (num_ne (sumN (bodyB m)))
    omega
  have HCUT := Lib.hid fun (q : Mg) (k : Nat) (hk : k < (msgB m).length) hnq => read_cut (q := q) hwm HM.out.nums hk hnq
  have HMORE := Lib.hid fun (q : Mg) (hq : MOf q (rMsg (msgB m ++ more)).1) => (read_more hwm hra HM.out.nums hq).2
  clear hn4 hA4 hra HF2 HB2 hwm
  obtain ⟨d, hd⟩ : ∃ d, d = msgB m := ⟨_, rfl⟩
  rw [← hd] at HR4 hlen hpos hc4 HCUT HMORE ⊢
  clear hd
  obtain ⟨t, et, ht⟩ : ∃ t : Nat, (q : Int) % (d.length : Int) = (t : Int) ∧ t < d.length := ⟨q % d.length, by rw [Int.natCast_emod], Nat.mod_lt _ hpos⟩
  have HK := Lib.hid (read_any w3 (HT.out.fr HF3.out fun h => h) A4 t c4 (d.take t) (by rw [List.length_take]; omega) (by rw [cb_take]; exact HR4.out.take t) HA4.out (by rw [List.length_take]; omega))
  go_wp2_with fail
  refine HK.out.mono ?_
  clear HK
  rintro e w6 ⟨q1, hq1, _, hf6, rfl⟩
  rw [HCUT.out q1 t ht hq1.nums, if_neg (by decide : ¬ false = true)]
  have HF6 := Lib.hid (HF3.out.trans hf6)
  have HR6 := Lib.hid (HR4.out.nofr hf6)
  have hwb := (Fr.refl NoBlk w6).alloc (.cells #[.int .i64 0, .int .i64 0, .int .i64 0, .int .i64 0, .int .i64 0, .int .u64 0, .string { data := #[] }, .slice none 0 0] 26)
  have HWB := Lib.hid hwb
  clear hq1 hf6 HCUT HF3 HR4 hwb et ht
  unfold zRef
  go_upto_region 9 with fail
  generalize hW : w6.alloc _ = w7 at *
  clear hW
  have HF7 := Lib.hid (HF6.out.trans HWB.out)
  have HR7 := Lib.hid ((HR6.out.nofr HWB.out).alloc (.cells #[] 5))
  have HNEW : Hid ((w7.alloc (.cells #[] 5)).ownsRow w7.heap.size 5 1 (.slice (some ⟨w7.heap.size, 0, none⟩) 0 0) 0 []) := own_new rfl (Nat.le_refl _)
  have HSZ : Hid (w7.heap.size ≤ (w7.alloc (.cells #[] 5)).heap.size) := by show _ ≤ _; simp
  clear HWB HF6 HR6
  go_wp2_with (at_builtin; refine wpList_app rfl _ _ 28 rfl w7.heap.size 5 i0 (.int .u8 0) 1 Tryd.underlying28 hi hz0 hz1 hz2 rfl _ 0 [] rfl HNEW.out A4 c4 d.length (cb d) rfl (cb_length d) HR7.out (cb_one _) HA4.out ?q3 ?q4 HSZ.out ?_)
  case q3 => unfold maxLen; omega
  case q4 => omega
  intro v8 w8 ho8 hg8 _ _
  have ho8' : w8.ownsRow w7.heap.size 5 1 v8 d.length (cb d) := by simpa only [Nat.zero_add, List.nil_append] using ho8
  clear ho8
  obtain ⟨A8, c8, rfl, _, _⟩ := own_form ho8'
  have HO8 := Lib.hid ho8'
  have HF8 : Hid (Fr NoBlk w w8) := (HF7.out.alloc _).grown hg8 (fun k hk hlt => by have := (own_blk HNEW.out hk).1; have := HF7.out.size; omega)
  have HF78 : Hid (Fr NoBlk w7 w8) := ((Fr.refl NoBlk w7).alloc _).grown hg8 (fun k hk hlt => by have := (own_blk HNEW.out hk).1; omega)
  have HM8 := Lib.hid (HRM.out.nofr HF8.out)
  clear ho8' hg8 HNEW HR7 HSZ
  go_wp2_with (at_builtin; refine wpList_app rfl _ _ 28 rfl w7.heap.size 5 i0 (.int .u8 0) 1 Tryd.underlying28 hi hz0 hz1 hz2 rfl _ _ _ rfl HO8.out A c more.length (cb more) rfl (cb_length more) HM8.out (cb_one _) HAM.out ?q3 ?q4 HF78.out.size ?_)
  case q3 => unfold maxLen; omega
  case q4 => omega
  intro v9 w9 ho9 hg9 _ _
  obtain ⟨A9, c9, rfl, _, hA9⟩ := own_form ho9
  have HA9 := Lib.hid hA9
  have HR9 : Hid (Rd w9 A9 (cb (d ++ more))) := by
    have h := Rd.of_own ho9
    show Rd _ _ _
    rw [cb_append]
    exact h
  have HF9 : Hid (Fr NoBlk w w9) := HF8.out.grown hg9 (fun k hk hlt => by have := (own_blk HO8.out hk).1; have := HF7.out.size; omega)
  clear ho9 hg9 hA9 HO8 HF78 HM8 HF8 HF7
  have HK := Lib.hid (read_any w9 (HT.out.fr HF9.out fun h => h) A9 (d.length + more.length) c9 (d ++ more) (by rw [List.length_append]) HR9.out HA9.out (by rw [List.length_append]; omega))
  go_wp2_with fail
  refine HK.out.mono ?_
  clear HK
  rintro e w10 ⟨q2, _, hqo, hf10, rfl⟩
  rw [HMORE.out q2 hqo]
  have HFX := Lib.hid (HF9.out.trans hf10)
  clear hqo hf10 HMORE HR9
  by_cases hm : more = []
  · rw [decide_eq_true hm, if_pos rfl]
    have hml : more.length = 0 := by rw [hm]; rfl
    rw [hml]
    clear hm
    have hwb := (Fr.refl NoBlk w10).alloc (.cells (mga q2) 26)
    have HWB := Lib.hid (HFX.out.trans hwb)
    unfold mga at HWB
    unfold mgv mga
    clear hwb
    go_wp2_with fail
    go_ret
    exact ⟨rfl, HWB.out⟩
  · rw [decide_eq_false hm, if_neg (by decide : ¬ false = true)]
    have hml : 0 < more.length := List.length_pos_iff.2 hm
    have hml2 : (0 : Int) < (more.length : Int) := by omega
    clear hm
    have HWB := Lib.hid (HFX.out.trans ((Fr.refl NoBlk w10).alloc (.cells #[.int .i64 0, .int .i64 0, .int .i64 0, .int .i64 0, .int .i64 0, .int .u64 0, .string { data := #[] }, .slice none 0 0] 26)))
    unfold zRef
    go_wp2_with fail
    go_ret
    exact ⟨rfl, HWB.out⟩

theorem paramsOk : ∀ t ∈ Tryd.f7.params.toList, Tryd.prog.readableRec t = true ∧ t < Tryd.prog.types.size := fun t ht => by
  have h := List.all_eq_true.1 (show (Tryd.f7.params.toList.all fun t => Tryd.prog.readableRec t && decide (t < Tryd.prog.types.size)) = true by kernel_rfl) t ht
  simpa using h
theorem paramsPlain : ∀ (j : Nat) t, Tryd.f7.params[j]? = some t → Tryd.prog.wantsStandIn t = false := fun j t ht => by
  have h := List.all_eq_true.1 (show (Tryd.f7.params.toList.all fun t => !Tryd.prog.wantsStandIn t) = true by kernel_rfl) t (by simpa using Array.mem_of_getElem? ht)
  simpa using h

set_option maxRecDepth 100000 in
theorem contract (H : Type) (enc : TypeId × Value → H) (W : World) (args : Array Value) (ds gs : List (DataW H)) (before : List MemPlace)
    (base : Nat) (hval : ∀ (j : Nat) t v, Tryd.f7.params[j]? = some t → args[j]? = some v → Value.okWide Tryd.prog W .any base t v)
    (hW : DataW.Whole enc Tryd.prog Tryd.f7.params.toList Rows.wireCutsSpec.vars false W args.toList ds gs before) (hL : laidMetH Tryd.prog Rows.wireCutsRow.laid W) :
    Calls Tryd.prog 7 args W fun e W' => ∃ v, e = .returned v ∧ Rows.wireCutsSpec.post enc Tryd.prog Tryd.f7 false true false false W args v W' := by
  have hW' := hW
  obtain ⟨p, q, hA, hV, rfl, _, _⟩ := hW
  rw [Tryd.params7] at hA hval
  obtain ⟨v0, vs0, d0, ds0, p0, q0, hargs, rfl, rfl, h0, r0⟩ := trodAll_cons hA
  obtain ⟨v1, vs1, d1, ds1, p1, q1, rfl, rfl, rfl, h1, r1⟩ := trodAll_cons r0
  obtain ⟨v2, vs2, d2, ds2, p2, q2, rfl, rfl, rfl, h2, r2⟩ := trodAll_cons r1
  obtain ⟨rfl, rfl, rfl⟩ := trodAll_nil r2
  obtain rfl : args = #[v0, v1, v2] := by cases args; simp_all
  obtain ⟨rfl, rfl⟩ := trodVars_none hV
  obtain ⟨m, rfl, hm⟩ := open_msg (hval 0 _ v0 rfl rfl) h0
  obtain ⟨cut, rfl, rfl, rfl, wcut⟩ := open_int Tryd.underlying3 (hval 1 _ v1 rfl rfl) h1
  obtain ⟨A, c, more, rfl, hr, hA', hle, hmx⟩ := open_bytes (hval 2 _ v2 rfl rfl) h2
  have walk := walk W (table hL) m cut A c more hm hr hA' (Nat.le_trans hle hmx)
  refine walk.mono fun e W' ⟨he, hf⟩ => ?_
  subst he
  exact ⟨_, rfl, law_post laidOut paramsOk rfl rfl Tryd.underlying4 hW' rfl rfl rfl hf⟩

theorem laid_met (os : Os) : laidMet Tryd.prog Rows.wireCutsRow.laid ((laidWorld os).forCall (fun _ _ => 0) ⟨#[], #[.agg #[.int .i64 0, .int .i64 0, .int .i64 0, .int .i64 0, .int .i64 0, .int .u64 0, .string ByteArray.empty, .slice none 0 0], .int .i64 0, .slice none 0 0], []⟩).memory :=
  laidMet_of_run' 20 (by kernel_rfl) (by kernel_rfl)
theorem reads (os : Os) {H : Type} (enc : TypeId × Value → H) : ∃ places, DataW.whole enc Tryd.prog ((laidWorld os).forCall (fun _ _ => 0) ⟨#[], #[.agg #[.int .i64 0, .int .i64 0, .int .i64 0, .int .i64 0, .int .i64 0, .int .u64 0, .string ByteArray.empty, .slice none 0 0], .int .i64 0, .slice none 0 0], []⟩).memory Tryd.f7.params.toList Rows.wireCutsSpec.vars false (#[.agg #[.int .i64 0, .int .i64 0, .int .i64 0, .int .i64 0, .int .i64 0, .int .u64 0, .string ByteArray.empty, .slice none 0 0], .int .i64 0, .slice none 0 0] : Array Value).toList 8 = some ([.agg [.lit (.int .i64 0), .lit (.int .i64 0), .lit (.int .i64 0), .lit (.int .i64 0), .lit (.int .i64 0), .lit (.int .u64 0), .lit (.string []), .nil], .lit (.int .i64 0), .nil], [], places) :=
  ⟨[], by kernel_rfl⟩

set_option maxRecDepth 100000 in
theorem lifted (os : Os) (started : os.Started) (H : Type) (enc : TypeId × Value → H) (F : Stop.Interp) :
    ReturnsInHanded {} Tryd.checked os 7 .any ((OpenSpec.ofChange Rows.wireCutsSpec).preRow enc Tryd.prog Tryd.f7 Rows.wireCutsRow.domain false Rows.wireCutsRow.laid) (((OpenSpec.ofChange Rows.wireCutsSpec).at F).post enc Tryd.prog Tryd.f7 false true false false) := by
  obtain ⟨places, hx⟩ := reads os enc
  refine returnsInHanded_of_row (C := Tryd.checked) (s := OpenSpec.ofChange Rows.wireCutsSpec) own started (by kernel_rfl) Tryd.func7
    (witness_row_at (enc := enc) (C := Tryd.checked) false (laidWorld os) #[.agg #[.int .i64 0, .int .i64 0, .int .i64 0, .int .i64 0, .int .i64 0, .int .u64 0, .string ByteArray.empty, .slice none 0 0], .int .i64 0, .slice none 0 0] rfl (by kernel_rfl) (by kernel_rfl) (by kernel_rfl)
      (OpenSpec.preRow_of_cond 8 hx (by kernel_rfl) (fun k hk => by cases hk) (by kernel_rfl) (laid_met os))) ?_
  intro W base args ds gs before hval hW _ _ _ hL _ _
  exact contract H enc W args ds gs before base hval hW hL

theorem said : Rows.WireCutsSaid :=
  OpenClaim.holds_of_cond 7 Tryd.f7 rfl rfl rfl rfl rfl rfl rfl ⟨rfl, rfl, rfl, rfl, rfl⟩ rfl rfl rfl rfl rfl (by kernel_rfl) Tryd.func7 (by kernel_rfl)
    (of_decide_eq_true (by kernel_rfl)) (by unfold Func.isWrapper; first | (rw [if_pos (by decide +kernel)]; kernel_rfl) | (rw [if_neg (by decide +kernel)]; exact ⟨rfl, rfl⟩))
    (fun os started H enc _ F => by rw [OpenClaim.pre_eq_preRow]; exact lifted os started H enc F)

theorem plain (f : FuncId) (fn : Func) (hf : Tryd.pinned.checked.prog.funcNamed "argosy/argosylaw18.WireCuts" = some f) (hfn : Tryd.pinned.checked.prog.funcs[f]? = some fn) :
    false = Tryd.pinned.checked.prog.looks [] ∧ ∀ (j : Nat) t, fn.params[j]? = some t → Tryd.pinned.checked.prog.wantsStandIn t = false := by
  obtain rfl : f = 7 := Option.some.inj ((show Tryd.prog.funcNamed "argosy/argosylaw18.WireCuts" = some 7 by kernel_rfl).symm.trans hf) |>.symm
  obtain rfl : fn = Tryd.f7 := (Option.some.inj (Tryd.func7.symm.trans hfn)).symm
  exact ⟨by kernel_rfl, paramsPlain⟩

theorem card : Rows.WireCutsCardSaid :=
  Claim7.holds_tied_plain_at .later [] _ _ _ _ said (fun _ h => by cases h) (by kernel_rfl) (fun _ h => by cases h) wireCuts_row_tie rfl ⟨rfl, rfl⟩ (by kernel_rfl) rfl plain (by kernel_rfl)
end Go.Proofs.YtdpjmkgjjhcgeaaDoor.wireCuts
