/- ProgChecks is true: whether any transaction is right for any number of regions is told exactly; it stays. No condition. -/
import Derived.Test.YtkohinhbmnoajaaLawp
import Derived.Test.YtkohinhbmnoajaaSpeaks5
import Derived.Test.YtkohinhbmnoajaaOpenT
import Derived.Test.YtkohinhbmnoajaaRight4
import Derived.Test.YtkohinhbmnoajaaAlike
import Derived.Test.YtkohinhbmnoajaaCopy
namespace Go.Proofs.Ytkohinhbmnoajaa.progChecks
open Go.ChangeShapes Go.WideShapes Go.ChangeAt Go.RowKit

set_option maxRecDepth 100000 in
set_option maxHeartbeats 2000000 in
theorem walk' (hcp : CopyLaw) (w : World) (t : Tx) (r : Int) (ht : TxIn w t) : Calls Try.prog 4 #[txv t, .int .i64 r] w fun e w' => e = .returned (.bool true) ∧ Fr NoBlk w w' := by
  have HT := Lib.hid ht
  have HCP := Lib.hid hcp
  have HF0 : Hid (Fr NoBlk w (w.alloc (.cells (txa t) 26))) := (Fr.refl _ _).alloc _
  have HB0 := Lib.hid (Bk.new w 26 (txa t))
  clear ht hcp
  unfold txv
  unfold txa at HF0
  unfold txa
  go_enter Try.func4, Try.ntmps4
  go_wp2_with fail
  refine (speaks_any _).mono ?_
  rintro e w1 ⟨rfl, hf1⟩
  have HF1 := Lib.hid (HF0.out.trans hf1)
  have HB1 := Lib.hid (HB0.out.fr hf1 (fun h => h))
  have c0 := HB1.out.cell 0
  have c1 := HB1.out.cell 1
  have c2 := HB1.out.cell 2
  have c3 := HB1.out.cell 3
  have c4 := HB1.out.cell 4
  unfold txa at c0 c1 c2 c3 c4
  simp only [List.getElem?_toArray, List.getElem?_cons_zero, List.getElem?_cons_succ] at c0 c1 c2 c3 c4
  clear hf1 HF0 HB0
  go_wp2_with fail
  refine (great_any w1 t (HT.out.nofr HF1.out)).mono ?_
  rintro e w2 ⟨⟨bb, rfl, hsm⟩, hf2⟩
  have HF2 := Lib.hid (HF1.out.trans hf2)
  have HB2 := Lib.hid (HB1.out.fr hf2 (fun h => h))
  have HSM := Lib.hid hsm
  clear c0 c1 c2 c3 c4 hf2 HB1 HF1 hsm
  cases bb
  rotate_left
  · go_wp2_with fail
    go_ret
    exact ⟨rfl, HF2.out⟩
  have HS := Lib.hid (HSM.out rfl)
  have c0 := HB2.out.cell 0
  have c1 := HB2.out.cell 1
  have c2 := HB2.out.cell 2
  have c3 := HB2.out.cell 3
  have c4 := HB2.out.cell 4
  unfold txa at c0 c1 c2 c3 c4
  simp only [List.getElem?_toArray, List.getElem?_cons_zero, List.getElem?_cons_succ] at c0 c1 c2 c3 c4
  clear HSM
  go_wp2_with fail
  refine (HCP.out w2 t (HT.out.nofr HF2.out) HS.out).mono ?_
  rintro e w3 ⟨u, rfl, hcp⟩
  have HC := Lib.hid hcp
  have HF3 := Lib.hid (HF2.out.trans hcp.fr)
  have HB3 := Lib.hid (HB2.out.fr hcp.fr (fun h => h))
  have hW4 := (Fr.refl NoBlk w3).alloc (.cells (txa u) 26)
  have HF4 := Lib.hid (HF3.out.trans hW4)
  have HB4 := Lib.hid (HB3.out.fr hW4 (fun h => h))
  have HD4 := Lib.hid (Bk.new w3 26 (txa u))
  have hck := check_any _ u r (hcp.inn.nofr hW4) (by rw [hcp.reads]; have := HS.out.r; omega) (by rw [hcp.writes]; have := HS.out.w; omega)
  rw [right_alike hcp r] at hck
  have hrt := fun W (hf : Fr NoBlk w W) => right_any W t r (HT.out.nofr hf) HS.out
  rw [docR_eq] at hrt
  have HU := Lib.hid (hcp.inn.nofr hW4)
  have HCK := Lib.hid hck
  have HRT := Lib.hid hrt
  have HSY := Lib.hid fun W (hf : Fr NoBlk w W) (hu : TxIn W u) => same_yes W u t hu (HT.out.nofr hf) (HC.out.small HS.out) HC.out.kind HC.out.to_ HC.out.reads HC.out.writes HC.out.ops
  generalize rightR t r = bb at HCK HRT
  clear hcp c0 c1 c2 c3 c4 HB2 HF2 HC hck hrt hW4 HB3 HF3
  unfold txv at HCK HRT HSY
  unfold txa at HCK HRT HSY
  unfold txv txa
  go_wp2_with fail
  refine HCK.out.mono ?_
  rintro e w5 ⟨rfl, hf5⟩
  have HF5 := Lib.hid (HF4.out.trans hf5)
  obtain ⟨c0, c1, c2, c3, c4⟩ := (HB4.out.fr hf5 (fun h => h)).txn
  obtain ⟨d0, d1, d2, d3, d4⟩ := (HD4.out.fr hf5 (fun h => h)).txn
  have HB5 := Lib.hid (HB4.out.fr hf5 (fun h => h))
  have HD5 := Lib.hid (HD4.out.fr hf5 (fun h => h))
  have HU5 := Lib.hid (HU.out.nofr hf5)
  clear hf5 HB4 HD4 HF4 HU HCK
  cases bb
  all_goals
    unfold codeR
    simp only [if_true, Bool.false_eq_true, if_false]
    go_wp2_with fail
    refine (HRT.out _ HF5.out).mono ?_
    rintro e w6 ⟨rfl, hf6⟩
    have HF6 := Lib.hid (HF5.out.trans hf6)
    have HU6 := Lib.hid (HU5.out.nofr hf6)
    clear c0 c1 c2 c3 c4 d0 d1 d2 d3 d4
    obtain ⟨c0, c1, c2, c3, c4⟩ := (HB5.out.fr hf6 (fun h => h)).txn
    obtain ⟨d0, d1, d2, d3, d4⟩ := (HD5.out.fr hf6 (fun h => h)).txn
    clear hf6
    go_wp2_with fail
    refine (HSY.out _ HF6.out HU6.out).mono ?_
    rintro e w7 ⟨rfl, hf7⟩
    have HF7 := Lib.hid (HF6.out.trans hf7)
    clear hf7
    go_wp2_with fail
    go_ret
    exact ⟨rfl, HF7.out⟩

theorem paramsOk : ∀ t ∈ Try.f4.params.toList, Try.prog.readableRec t = true ∧ t < Try.prog.types.size := fun t ht => by
  have h := List.all_eq_true.1 (show (Try.f4.params.toList.all fun t => Try.prog.readableRec t && decide (t < Try.prog.types.size)) = true by kernel_rfl) t ht
  simpa using h

set_option maxRecDepth 100000 in
theorem lifted (os : Os) (started : os.Started) (H : Type) (enc : TypeId × Value → H) :
    ReturnsInHanded {} Try.checked os 4 .any (Rows.progChecksSpec.pre6 enc Try.prog Try.f4 Rows.progChecksRow.domain false) (Rows.progChecksSpec.post enc Try.prog Try.f4 false true false false) := by
  refine returnsInHanded_of_change (C := Try.checked) own started (by kernel_rfl) Try.func4
    (ChangeSpec.witness6 (enc := enc) (C := Try.checked) false ⟨#[], #[.agg #[.int .i64 0, .slice none 0 0, .slice none 0 0, .slice none 0 0, .int .i64 0], .int .i64 0], []⟩ 8 (by kernel_rfl) (by kernel_rfl) (by kernel_rfl) (by kernel_rfl)) ?_
  intro W base args ds gs before hval0 hW _ _
  have hval : ∀ (j : Nat) t v, Try.f4.params[j]? = some t → args[j]? = some v → Value.okWide Try.prog W .any base t v := hval0
  have hW' := hW
  obtain ⟨p, q, hA0, hV, rfl, _, _⟩ := hW
  have hA : DataW.TrodAll enc Try.prog W 0 (fun _ => true) true Try.f4.params.toList args.toList ds p := hA0
  rw [Try.params4] at hA hval
  obtain ⟨v0, vs0, d0, ds0, p0, q0, hargs, rfl, rfl, h0, r0⟩ := trodAll_cons hA
  obtain ⟨v1, vs1, d1, ds1, p1, q1, rfl, rfl, rfl, h1, r1⟩ := trodAll_cons r0
  obtain ⟨rfl, rfl, rfl⟩ := trodAll_nil r1
  obtain rfl : args = #[v0, v1] := by cases args; simp_all
  obtain ⟨rfl, rfl⟩ := trodVars_none hV
  obtain ⟨t, rfl, ht⟩ := open_txn (hval 0 _ v0 rfl rfl) h0
  obtain ⟨r, rfl, rfl, rfl, wr⟩ := open_int Try.underlying3 (hval 1 _ v1 rfl rfl) h1
  have walk := walk' copy_any W t r ht
  clear hA0 hval0
  refine walk.mono fun e W' ⟨he, hf⟩ => ?_
  subst he
  exact ⟨_, rfl, law_post laidOut paramsOk rfl rfl Try.underlying4 hW' rfl rfl rfl hf⟩

theorem said : Rows.ProgChecksSaid :=
  OpenClaim.holds_of_wide 4 Try.f4 rfl rfl rfl rfl rfl rfl rfl ⟨rfl, rfl, rfl, rfl, rfl⟩ rfl rfl rfl rfl rfl (by kernel_rfl) Try.func4 (by kernel_rfl)
    (of_decide_eq_true (by kernel_rfl)) (by unfold Func.isWrapper; first | (rw [if_pos (by decide +kernel)]; kernel_rfl) | (rw [if_neg (by decide +kernel)]; exact ⟨rfl, rfl⟩))
    (fun os started H enc _ => lifted os started H enc)
end Go.Proofs.Ytkohinhbmnoajaa.progChecks
