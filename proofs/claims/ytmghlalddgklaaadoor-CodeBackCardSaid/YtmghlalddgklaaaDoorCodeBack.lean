/- CodeBack is true: a number that was written is read as itself, nothing shorter is, and it has as many bytes as it needs. No condition but what the card ties. -/
import Derived.Test.YtmghlalddgklaaaDoorLaw
import Derived.Test.YtmghlalddgklaaaDoorNum2
namespace Go.Proofs.YtmghlalddgklaaaDoor.codeBack
open Go.ChangeShapes Go.WideShapes Go.ChangeAt Go.RowKit

set_option maxRecDepth 100000 in
set_option maxHeartbeats 1000000 in
theorem walk (w : World) (ht : Tab w) (n : Nat) (k : Int) (hn : n < 2 ^ 64) : Calls Tryd.prog 6 #[.int .u64 n, .int .i64 k] w fun e w' => e = .returned (.bool true) ∧ Fr NoBlk w w' := by
  have HT := Lib.hid ht
  have HA := Lib.hid hn
  obtain ⟨q, hq, eq⟩ := i64_low k 4 (by omega)
  rw [show ((2 ^ 4 - 1 : Nat) : Int) = 15 from rfl] at eq
  have hq' : q < 16 := by omega
  clear ht hn hq
  go_enter Tryd.func6, Tryd.ntmps6
  go_wp2_with fail
  refine (speaks_any w HT.out).mono ?_
  rintro e w1 ⟨rfl, hf⟩
  have HF := Lib.hid hf
  have HP : Hid (Pen (w1.alloc (.cells #[.slice none 0 0] 28)) w1.heap.size w1.heap.size (.slice none 0 0) []) := ⟨Bk.new _ _ _, World.ownsRow_nil _ _ _ _⟩
  clear hf
  go_wp2_with fail
  refine (num_any _ w1.heap.size w1.heap.size n _ [] HP.out (by simp) HA.out (by simp)).mono ?_
  rintro e w2 ⟨rfl, v2, hw2⟩
  rw [List.nil_append] at hw2
  have HW2 := Lib.hid hw2
  clear hw2
  have hlen := num_len n HA.out
  have hlen0 : 0 < (num n).length := List.length_pos_iff.2 (num_ne n)
  go_wp2_with fail
  refine (data_any w2 w1.heap.size w1.heap.size v2 (num n) HW2.out.pen (by omega)).mono ?_
  rintro e w3 ⟨v3, rfl, hn3⟩
  obtain ⟨A3, c3, rfl, hc3, hA3⟩ := own_form hn3.own
  have HN3 := Lib.hid hn3
  have HA3 := Lib.hid hA3
  have HF3 : Hid (Fr NoBlk w w3) := ((HF.out.alloc _).step HW2.out.fr (by
      rintro i hi (rfl | e)
      · have := HF.out.size; omega
      · cases e)).step HN3.out.fr (fun _ _ h => h)
  clear hn3 hA3
  go_wp2_with fail
  refine (newEye_any w3 A3 _ c3 (num n) rfl (Rd.of_own HN3.out.own) HA3.out (by omega)).mono ?_
  rintro e w4 ⟨g4, A4, c4, rfl, he4, hf4, hg4, hb4⟩
  have HE4 := Lib.hid he4
  have HF4 := Lib.hid hf4
  have HB4 := Lib.hid hb4
  clear he4 hf4 hb4
  obtain ⟨t, et, ht⟩ : ∃ t : Nat, (q : Int) % ((num n).length : Int) = (t : Int) ∧ t < (num n).length := ⟨q % (num n).length, by rw [Int.natCast_emod], Nat.mod_lt _ hlen0⟩
  have HK := Lib.hid (newEye_any w4 A3 t c3 ((num n).take t) (by rw [List.length_take]; omega) (by rw [cb_take]; exact ((Rd.of_own HN3.out.own).nofr HF4.out).take t) HA3.out (by rw [List.length_take]; omega))
  go_wp2_with fail
  refine HK.out.mono ?_
  rintro e w5 ⟨g5, A5, c5, rfl, he5, hf5, hg5, hb5⟩
  have HE5 := Lib.hid he5
  have HF5 := Lib.hid hf5
  have HB5 := Lib.hid hb5
  have HE45 := Lib.hid (HE4.out.keep HF5.out (fun h => h) (fun _ _ h => h))
  have hg45 := HE4.out.bk.lt
  clear he5 hf5 hb5 HK
  go_wp2_with fail
  refine (eyeNum_any w5 g4 A4 c4 (num n) HE45.out (by omega)).mono ?_
  rw [rdNum_num n HA.out, List.drop_eq_nil_of_le (Nat.le_refl _)]
  rintro e w6 ⟨rfl, A6, c6, hy6⟩
  have HY6 := Lib.hid hy6
  have HE56 := Lib.hid (HE5.out.keep hy6.fr (by omega) (by
    rintro k hk rfl
    have := HB5.out _ hk
    omega))
  clear hy6
  go_wp2_with fail
  refine (eyeNum_any w6 g5 A5 c5 _ HE56.out (by rw [List.length_take]; omega)).mono ?_
  rw [rdNum_cut n t HA.out ht]
  rintro e w7 ⟨rfl, A7, c7, hy7⟩
  have HY7 := Lib.hid hy7
  have HE67 := Lib.hid (HY6.out.eye.keep hy7.fr (by omega) (by
    rintro k hk rfl
    obtain ⟨b, rfl, hbk⟩ := HY6.out.row _ hk
    have := (HE4.out.rd).lt (by rw [cb_length]; exact hlen0) ⟨b, rfl, hbk⟩
    omega))
  have hsz := HF.out.size
  have hsz2 := HW2.out.fr.size
  have HF7 : Hid (Fr NoBlk w w7) := (((HF3.out.trans HF4.out).trans HF5.out).step HY6.out.fr (by
      rintro i hi rfl
      have := HF3.out.size; omega)).step HY7.out.fr (by
      rintro i hi rfl
      have := HF3.out.size; have := HF4.out.size; omega)
  clear hy7
  go_wp2_with fail
  have HLS := Lib.hid (num_len_step n)
  have hdiv : ((n : Int) / 128) = ((n / 128 : Nat) : Int) := by omega
  go_loop [13, 14] (fun a r => ∃ s m : Nat, a = .int .i64 s ∧ r = .int .u64 m ∧ Hid ((num n).length = s + (if m = 0 then 0 else (num m).length))) (fun _ r => (intOf r).toNat)
  case atStart => exact ⟨1, n / 128, rfl, by go_num, HLS.out⟩
  case round =>
    obtain ⟨s, m, rfl, rfl, HS⟩ := hrel
    clear hdiv
    by_cases hm : m = 0
    · have hs : (num n).length = s := by rw [HS.out, if_pos hm]; omega
      subst hm
      have f1 : ((((num n).length : Nat) : Int) == (s : Int)) = true := beq_iff_eq.2 (by omega)
      have HQ := Lib.hid hs
      clear hs
      go_wp2_with fail
      refine (eyeEnd_any w7 g4 A6 c6 [] HE67.out).mono ?_
      rintro e w8 ⟨rfl, rfl⟩
      go_wp2_with fail
      go_ret
      exact ⟨rfl, HF7.out⟩
    · have hpos : 0 < m := by omega
      have HS2 : Hid ((num n).length = s + 1 + (if m / 128 = 0 then 0 else (num (m / 128)).length)) := by
        unfold Hid
        rw [HS.out, if_neg hm, num_len_step m]; omega
      have hs10 : s ≤ 10 := by have := HS.out; omega
      clear hm
      go_wp2_with fail
      go_round
      case rel => exact ⟨s + 1, m / 128, by go_num, by go_num, HS2⟩
      case measure => simp [intOf]; omega

theorem paramsOk : ∀ t ∈ Tryd.f6.params.toList, Tryd.prog.readableRec t = true ∧ t < Tryd.prog.types.size := fun t ht => by
  have h := List.all_eq_true.1 (show (Tryd.f6.params.toList.all fun t => Tryd.prog.readableRec t && decide (t < Tryd.prog.types.size)) = true by kernel_rfl) t ht
  simpa using h
theorem paramsPlain : ∀ (j : Nat) t, Tryd.f6.params[j]? = some t → Tryd.prog.wantsStandIn t = false := fun j t ht => by
  have h := List.all_eq_true.1 (show (Tryd.f6.params.toList.all fun t => !Tryd.prog.wantsStandIn t) = true by kernel_rfl) t (by simpa using Array.mem_of_getElem? ht)
  simpa using h

theorem contract (H : Type) (enc : TypeId × Value → H) (W : World) (args : Array Value) (ds gs : List (DataW H)) (before : List MemPlace)
    (base : Nat) (hval : ∀ (j : Nat) t v, Tryd.f6.params[j]? = some t → args[j]? = some v → Value.okWide Tryd.prog W .any base t v)
    (hW : DataW.Whole enc Tryd.prog Tryd.f6.params.toList Rows.codeBackSpec.vars false W args.toList ds gs before) (hL : laidMetH Tryd.prog Rows.codeBackRow.laid W) :
    Calls Tryd.prog 6 args W fun e W' => ∃ v, e = .returned v ∧ Rows.codeBackSpec.post enc Tryd.prog Tryd.f6 false true false false W args v W' := by
  have hW' := hW
  obtain ⟨p, q, hA, hV, rfl, _, _⟩ := hW
  rw [Tryd.params6] at hA hval
  obtain ⟨v0, vs0, d0, ds0, p0, q0, hargs, rfl, rfl, h0, r0⟩ := trodAll_cons hA
  obtain ⟨v1, vs1, d1, ds1, p1, q1, rfl, rfl, rfl, h1, r1⟩ := trodAll_cons r0
  obtain ⟨rfl, rfl, rfl⟩ := trodAll_nil r1
  obtain rfl : args = #[v0, v1] := by cases args; simp_all
  obtain ⟨rfl, rfl⟩ := trodVars_none hV
  obtain ⟨a, rfl, rfl, rfl, wa⟩ := open_int Tryd.underlying29 (hval 0 _ v0 rfl rfl) h0
  obtain ⟨b, rfl, rfl, rfl, wb⟩ := open_int Tryd.underlying3 (hval 1 _ v1 rfl rfl) h1
  obtain ⟨a, rfl, ha⟩ := nat_u64 wa
  have walk := walk W (table hL) a b ha
  refine walk.mono fun e W' ⟨he, hf⟩ => ?_
  subst he
  exact ⟨_, rfl, law_post laidOut paramsOk rfl rfl Tryd.underlying4 hW' rfl rfl rfl hf⟩

theorem laid_met (os : Os) : laidMet Tryd.prog Rows.codeBackRow.laid ((laidWorld os).forCall (fun _ _ => 0) ⟨#[], #[.int .u64 0, .int .i64 0], []⟩).memory :=
  laidMet_of_run' 20 (by kernel_rfl) (by kernel_rfl)
theorem reads (os : Os) {H : Type} (enc : TypeId × Value → H) : ∃ places, DataW.whole enc Tryd.prog ((laidWorld os).forCall (fun _ _ => 0) ⟨#[], #[.int .u64 0, .int .i64 0], []⟩).memory Tryd.f6.params.toList Rows.codeBackSpec.vars false (#[.int .u64 0, .int .i64 0] : Array Value).toList 8 = some ([.lit (.int .u64 0), .lit (.int .i64 0)], [], places) :=
  ⟨[], by kernel_rfl⟩

set_option maxRecDepth 100000 in
theorem lifted (os : Os) (started : os.Started) (H : Type) (enc : TypeId × Value → H) (F : Stop.Interp) :
    ReturnsInHanded {} Tryd.checked os 6 .any ((OpenSpec.ofChange Rows.codeBackSpec).preRow enc Tryd.prog Tryd.f6 Rows.codeBackRow.domain false Rows.codeBackRow.laid) (((OpenSpec.ofChange Rows.codeBackSpec).at F).post enc Tryd.prog Tryd.f6 false true false false) := by
  obtain ⟨places, hx⟩ := reads os enc
  refine returnsInHanded_of_row (C := Tryd.checked) (s := OpenSpec.ofChange Rows.codeBackSpec) own started (by kernel_rfl) Tryd.func6
    (witness_row_at (enc := enc) (C := Tryd.checked) false (laidWorld os) #[.int .u64 0, .int .i64 0] rfl (by kernel_rfl) (by kernel_rfl) (by kernel_rfl)
      (OpenSpec.preRow_of_cond 8 hx (by kernel_rfl) (fun k hk => by cases hk) (by kernel_rfl) (laid_met os))) ?_
  intro W base args ds gs before hval hW _ _ _ hL _ _
  exact contract H enc W args ds gs before base hval hW hL

theorem said : Rows.CodeBackSaid :=
  OpenClaim.holds_of_cond 6 Tryd.f6 rfl rfl rfl rfl rfl rfl rfl ⟨rfl, rfl, rfl, rfl, rfl⟩ rfl rfl rfl rfl rfl (by kernel_rfl) Tryd.func6 (by kernel_rfl)
    (of_decide_eq_true (by kernel_rfl)) (by unfold Func.isWrapper; first | (rw [if_pos (by decide +kernel)]; kernel_rfl) | (rw [if_neg (by decide +kernel)]; exact ⟨rfl, rfl⟩))
    (fun os started H enc _ F => by rw [OpenClaim.pre_eq_preRow]; exact lifted os started H enc F)

theorem plain (f : FuncId) (fn : Func) (hf : Tryd.pinned.checked.prog.funcNamed "argosy/argosylaw01.CodeBack" = some f) (hfn : Tryd.pinned.checked.prog.funcs[f]? = some fn) :
    false = Tryd.pinned.checked.prog.looks [] ∧ ∀ (j : Nat) t, fn.params[j]? = some t → Tryd.pinned.checked.prog.wantsStandIn t = false := by
  obtain rfl : f = 6 := Option.some.inj ((show Tryd.prog.funcNamed "argosy/argosylaw01.CodeBack" = some 6 by kernel_rfl).symm.trans hf) |>.symm
  obtain rfl : fn = Tryd.f6 := (Option.some.inj (Tryd.func6.symm.trans hfn)).symm
  exact ⟨by kernel_rfl, paramsPlain⟩

theorem card : Rows.CodeBackCardSaid :=
  Claim7.holds_tied_plain_at .later [] _ _ _ _ said (fun _ h => by cases h) (by kernel_rfl) (fun _ h => by cases h) codeBack_row_tie rfl ⟨rfl, rfl⟩ (by kernel_rfl) rfl plain (by kernel_rfl)
end Go.Proofs.YtmghlalddgklaaaDoor.codeBack
