/- CodeCuts is true: a text cut off anywhere is not read, and the eye stays where it is. No condition but what the card ties. -/
import Derived.Test.YtmghlalddgklaaaDoorOpen
import Derived.Test.YtmghlalddgklaaaDoorNum2
namespace Go.Proofs.YtmghlalddgklaaaDoor.codeCuts
open Go.ChangeShapes Go.WideShapes Go.ChangeAt Go.RowKit

theorem text_cut (l : List UInt8) (hl : l.length < 2 ^ 64) (t : Nat) (ht : t < (num l.length ++ l).length) : rdText ((num l.length ++ l).take t) = ([], 0, 30) := by
  unfold rdText
  by_cases h : t < (num l.length).length
  · rw [List.take_append_of_le_length (by omega), rdNum_cut _ _ hl h]
    rfl
  · rw [List.take_append, List.take_of_length_le (by omega), rdNum_app _ _ hl]
    simp only [if_true]
    rw [if_pos]
    rw [List.length_append, List.length_take]
    rw [List.length_append] at ht
    omega

set_option maxRecDepth 100000 in
set_option maxHeartbeats 1000000 in
theorem walk (w : World) (ht : Tab w) (A : Option Addr) (c : Nat) (l : List UInt8) (k : Int) (hr : Rd w A (cb l)) (hA : A = none → c = 0) (hm : l.length ≤ maxLen) :
    Calls Tryd.prog 10 #[.slice A l.length c, .int .i64 k] w fun e w' => e = .returned (.bool true) ∧ Fr NoBlk w w' := by
  have HT := Lib.hid ht
  have HR := Lib.hid hr
  have HA := Lib.hid hA
  obtain ⟨q, hq, eq⟩ := i64_low k 16 (by omega)
  rw [show ((2 ^ 16 - 1 : Nat) : Int) = 65535 from rfl] at eq
  clear ht hr hA
  unfold maxLen at hm
  by_cases hbig : 10000 < l.length
  · go_enter Tryd.func10, Tryd.ntmps10
    go_wp2_with fail
    refine (speaks_any w HT.out).mono ?_
    rintro e w1 ⟨rfl, hf⟩
    have HF := Lib.hid hf
    clear hf
    go_wp2_with fail
    go_ret
    exact ⟨rfl, HF.out⟩
  · go_enter Tryd.func10, Tryd.ntmps10
    go_wp2_with fail
    refine (speaks_any w HT.out).mono ?_
    rintro e w1 ⟨rfl, hf⟩
    have HF := Lib.hid hf
    have HP : Hid (Pen (w1.alloc (.cells #[.slice none 0 0] 28)) w1.heap.size w1.heap.size (.slice none 0 0) []) := ⟨Bk.new _ _ _, World.ownsRow_nil _ _ _ _⟩
    have HK := Lib.hid (text_any (w1.alloc (.cells #[.slice none 0 0] 28)) w1.heap.size w1.heap.size A _ c l _ [] HP.out (by simp) rfl ((HR.out.nofr hf).alloc _) HA.out (by
      intro h0 k hk
      have := (HR.out.nofr hf).lt (by rwa [cb_length]) hk
      exact ⟨by omega, fun e => by cases e⟩) (by omega) (by simp))
    clear hf
    go_wp2_with fail
    refine HK.out.mono ?_
    clear HK
    rintro e w2 ⟨rfl, v2, hw2⟩
    rw [List.nil_append] at hw2
    have HW2 := Lib.hid hw2
    clear hw2
    obtain ⟨d, hd⟩ : ∃ d, d = num l.length ++ l := ⟨_, rfl⟩
    have hdl : 0 < d.length ∧ d.length ≤ 10010 := by
      have := List.length_pos_iff.2 (num_ne l.length)
      have := num_len l.length (by omega)
      rw [hd, List.length_append]; omega
    have HC := Lib.hid (fun t => text_cut l (by omega) t)
    rw [← hd] at HC HW2
    clear hd
    go_wp2_with fail
    refine (data_any w2 w1.heap.size w1.heap.size v2 d HW2.out.pen (by omega)).mono ?_
    rintro e w3 ⟨v3, rfl, hn3⟩
    obtain ⟨A3, c3, rfl, hc3, hA3⟩ := own_form hn3.own
    have HN3 := Lib.hid hn3
    have HA3 := Lib.hid hA3
    have HF3 : Hid (Fr NoBlk w w3) := ((HF.out.alloc _).step HW2.out.fr (by
        rintro i hi (rfl | e)
        · have := HF.out.size; omega
        · cases e)).step HN3.out.fr (fun _ _ h => h)
    clear hn3 hA3
    obtain ⟨t, et, ht⟩ : ∃ t : Nat, (q : Int) % (d.length : Int) = (t : Int) ∧ t < d.length := ⟨q % d.length, by rw [Int.natCast_emod], Nat.mod_lt _ hdl.1⟩
    have HK := Lib.hid (newEye_any w3 A3 t c3 (d.take t) (by rw [List.length_take]; omega) (by rw [cb_take]; exact (Rd.of_own HN3.out.own).take t) HA3.out (by rw [List.length_take]; omega))
    go_wp2_with fail
    refine HK.out.mono ?_
    clear HK
    rintro e w4 ⟨g4, A4, c4, rfl, he4, hf4, hg4, hb4⟩
    have HE4 := Lib.hid he4
    have HF4 := Lib.hid hf4
    have HB4 := Lib.hid hb4
    clear he4 hf4 hb4
    have HK := Lib.hid (eyeText_any w4 g4 A4 c4 (d.take t) HE4.out (by rw [List.length_take]; omega))
    go_wp2_with fail
    refine HK.out.mono ?_
    clear HK
    rintro e w5 hp5
    unfold TextPost at hp5
    rw [HC.out t ht] at hp5
    obtain ⟨v5, A5, c5, rfl, ho5, hy5⟩ := hp5
    obtain ⟨A5', c5', rfl, _, _⟩ := own_form ho5
    have HY5 := Lib.hid hy5
    clear hy5 ho5
    rw [List.drop_zero] at HY5
    have HFR : Hid (∀ (wr : World) (A' : Option Addr) (c' : Nat) (l' : List UInt8), Eyed w4 wr g4 A4 A' c' l' → Fr NoBlk w wr ∧ Rd wr A3 (cb d)) := fun wr A' c' l' hy =>
      ⟨(HF3.out.trans HF4.out).step hy.fr (by
        rintro i hi rfl
        have := HF3.out.size; omega),
      ((Rd.of_own HN3.out.own).nofr HF4.out).fr' hy.fr (by
        rintro h0 k hk rfl
        have := (Rd.of_own HN3.out.own).lt h0 hk
        omega)⟩
    go_wp2_with fail
    go_loopw [11] (fun s wr => ∃ (i : Nat) (A' : Option Addr) (c' : Nat), i ≤ t ∧ s = .int .i64 i ∧ Hid (Eyed w4 wr g4 A4 A' c' ((d.take t).drop i))) (fun s _ => t - (intOf s).toNat)
    case atStart => exact ⟨0, _, _, Nat.zero_le _, rfl, HY5.out⟩
    case round =>
      obtain ⟨i, A', c', hi, rfl, HY⟩ := hrel
      by_cases hlt : i < t
      · have HD := Lib.hid (drop_cons (d.take t) i (by rw [List.length_take]; omega))
        have hx : (d.take t).getD i 0 = d.getD i 0 := by
          simp [List.getD_eq_getElem?_getD, List.getElem?_take, hlt]
        rw [hx] at HD
        clear hx
        have HK := Lib.hid (eyeByte_any wr g4 A' c' ((d.take t).drop i) HY.out.eye)
        rw [HD.out] at HK
        rw [if_neg (List.cons_ne_nil _ _), List.headD_cons, List.drop_one, List.tail_cons] at HK
        go_wp2_with fail
        refine HK.out.mono ?_
        rintro e w6 ⟨rfl, A6, c6, hy6⟩
        have HY6 := Lib.hid (HY.out.trans hy6)
        obtain ⟨b, o, rfl, hcell⟩ := (HFR.out _ _ _ _ HY6.out).2.byte (show i < d.length by omega)
        clear hy6 HK
        generalize d.getD i 0 = x at *
        have f1 : ((x.toNat : Int) != (x.toNat : Int)) = false := by simp
        go_wp2_with fail
        go_roundw
        case rel => exact ⟨i + 1, _, _, by omega, by go_num, HY6⟩
        case measure => simp [intOf]; omega
      · have h0 : (d.take t).drop i = [] := List.drop_eq_nil_of_le (by rw [List.length_take]; omega)
        rw [h0] at HY
        go_wp2_with fail
        refine (eyeEnd_any wr g4 A' c' [] HY.out.eye).mono ?_
        rintro e w8 ⟨rfl, rfl⟩
        go_wp2_with fail
        go_ret
        exact ⟨rfl, (HFR.out _ _ _ _ HY.out).1⟩

theorem paramsOk : ∀ t ∈ Tryd.f10.params.toList, Tryd.prog.readableRec t = true ∧ t < Tryd.prog.types.size := fun t ht => by
  have h := List.all_eq_true.1 (show (Tryd.f10.params.toList.all fun t => Tryd.prog.readableRec t && decide (t < Tryd.prog.types.size)) = true by kernel_rfl) t ht
  simpa using h
theorem paramsPlain : ∀ (j : Nat) t, Tryd.f10.params[j]? = some t → Tryd.prog.wantsStandIn t = false := fun j t ht => by
  have h := List.all_eq_true.1 (show (Tryd.f10.params.toList.all fun t => !Tryd.prog.wantsStandIn t) = true by kernel_rfl) t (by simpa using Array.mem_of_getElem? ht)
  simpa using h

theorem contract (H : Type) (enc : TypeId × Value → H) (W : World) (args : Array Value) (ds gs : List (DataW H)) (before : List MemPlace)
    (base : Nat) (hval : ∀ (j : Nat) t v, Tryd.f10.params[j]? = some t → args[j]? = some v → Value.okWide Tryd.prog W .any base t v)
    (hW : DataW.Whole enc Tryd.prog Tryd.f10.params.toList Rows.codeCutsSpec.vars false W args.toList ds gs before) (hL : laidMetH Tryd.prog Rows.codeCutsRow.laid W) :
    Calls Tryd.prog 10 args W fun e W' => ∃ v, e = .returned v ∧ Rows.codeCutsSpec.post enc Tryd.prog Tryd.f10 false true false false W args v W' := by
  have hW' := hW
  obtain ⟨p, q, hA, hV, rfl, _, _⟩ := hW
  rw [Tryd.params10] at hA hval
  obtain ⟨v0, vs0, d0, ds0, p0, q0, hargs, rfl, rfl, h0, r0⟩ := trodAll_cons hA
  obtain ⟨v1, vs1, d1, ds1, p1, q1, rfl, rfl, rfl, h1, r1⟩ := trodAll_cons r0
  obtain ⟨rfl, rfl, rfl⟩ := trodAll_nil r1
  obtain rfl : args = #[v0, v1] := by cases args; simp_all
  obtain ⟨rfl, rfl⟩ := trodVars_none hV
  obtain ⟨A, c, l, rfl, hr, hA', hlc, hcm⟩ := open_bytes (hval 0 _ v0 rfl rfl) h0
  obtain ⟨b, rfl, rfl, rfl, wb⟩ := open_int Tryd.underlying3 (hval 1 _ v1 rfl rfl) h1
  have walk := walk W (table hL) A c l b hr hA' (by omega)
  refine walk.mono fun e W' ⟨he, hf⟩ => ?_
  subst he
  exact ⟨_, rfl, law_post laidOut paramsOk rfl rfl Tryd.underlying4 hW' rfl rfl rfl hf⟩

theorem laid_met (os : Os) : laidMet Tryd.prog Rows.codeCutsRow.laid ((laidWorld os).forCall (fun _ _ => 0) ⟨#[], #[.slice none 0 0, .int .i64 0], []⟩).memory :=
  laidMet_of_run' 20 (by kernel_rfl) (by kernel_rfl)
theorem reads (os : Os) {H : Type} (enc : TypeId × Value → H) : ∃ places, DataW.whole enc Tryd.prog ((laidWorld os).forCall (fun _ _ => 0) ⟨#[], #[.slice none 0 0, .int .i64 0], []⟩).memory Tryd.f10.params.toList Rows.codeCutsSpec.vars false (#[.slice none 0 0, .int .i64 0] : Array Value).toList 8 = some ([.nil, .lit (.int .i64 0)], [], places) :=
  ⟨[], by kernel_rfl⟩

set_option maxRecDepth 100000 in
theorem lifted (os : Os) (started : os.Started) (H : Type) (enc : TypeId × Value → H) (F : Stop.Interp) :
    ReturnsInHanded {} Tryd.checked os 10 .any ((OpenSpec.ofChange Rows.codeCutsSpec).preRow enc Tryd.prog Tryd.f10 Rows.codeCutsRow.domain false Rows.codeCutsRow.laid) (((OpenSpec.ofChange Rows.codeCutsSpec).at F).post enc Tryd.prog Tryd.f10 false true false false) := by
  obtain ⟨places, hx⟩ := reads os enc
  refine returnsInHanded_of_row (C := Tryd.checked) (s := OpenSpec.ofChange Rows.codeCutsSpec) own started (by kernel_rfl) Tryd.func10
    (witness_row_at (enc := enc) (C := Tryd.checked) false (laidWorld os) #[.slice none 0 0, .int .i64 0] rfl (by kernel_rfl) (by kernel_rfl) (by kernel_rfl)
      (OpenSpec.preRow_of_cond 8 hx (by kernel_rfl) (fun k hk => by cases hk) (by kernel_rfl) (laid_met os))) ?_
  intro W base args ds gs before hval hW _ _ _ hL _ _
  exact contract H enc W args ds gs before base hval hW hL

theorem said : Rows.CodeCutsSaid :=
  OpenClaim.holds_of_cond 10 Tryd.f10 rfl rfl rfl rfl rfl rfl rfl ⟨rfl, rfl, rfl, rfl, rfl⟩ rfl rfl rfl rfl rfl (by kernel_rfl) Tryd.func10 (by kernel_rfl)
    (of_decide_eq_true (by kernel_rfl)) (by unfold Func.isWrapper; first | (rw [if_pos (by decide +kernel)]; kernel_rfl) | (rw [if_neg (by decide +kernel)]; exact ⟨rfl, rfl⟩))
    (fun os started H enc _ F => by rw [OpenClaim.pre_eq_preRow]; exact lifted os started H enc F)

theorem plain (f : FuncId) (fn : Func) (hf : Tryd.pinned.checked.prog.funcNamed "argosy/argosylaw01.CodeCuts" = some f) (hfn : Tryd.pinned.checked.prog.funcs[f]? = some fn) :
    false = Tryd.pinned.checked.prog.looks [] ∧ ∀ (j : Nat) t, fn.params[j]? = some t → Tryd.pinned.checked.prog.wantsStandIn t = false := by
  obtain rfl : f = 10 := Option.some.inj ((show Tryd.prog.funcNamed "argosy/argosylaw01.CodeCuts" = some 10 by kernel_rfl).symm.trans hf) |>.symm
  obtain rfl : fn = Tryd.f10 := (Option.some.inj (Tryd.func10.symm.trans hfn)).symm
  exact ⟨by kernel_rfl, paramsPlain⟩

theorem card : Rows.CodeCutsCardSaid :=
  Claim7.holds_tied_plain_at .later [] _ _ _ _ said (fun _ h => by cases h) (by kernel_rfl) (fun _ h => by cases h) codeCuts_row_tie rfl ⟨rfl, rfl⟩ (by kernel_rfl) rfl plain (by kernel_rfl)
end Go.Proofs.YtmghlalddgklaaaDoor.codeCuts
