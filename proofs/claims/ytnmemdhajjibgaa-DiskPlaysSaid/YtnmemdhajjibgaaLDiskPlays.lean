/- DiskPlays is true: every call of any script on a disk answers as the document says, and leaves its files. No condition. -/
import Derived.Test.YtnmemdhajjibgaaLawp
import Derived.Test.YtnmemdhajjibgaaSameD
namespace Go.Proofs.Ytnmemdhajjibgaa.diskPlays
open Go.ChangeShapes Go.WideShapes Go.ChangeAt Go.RowKit

set_option maxRecDepth 100000 in
set_option maxHeartbeats 4000000 in
theorem walk (w : World) (r : Int) (A : Option Addr) (c : Nat) (xs : List Opn) (hr : Rd w A (opsc xs)) (hx : ∀ x ∈ xs, OpIn w x) (hm : xs.length ≤ maxLen) :
    Calls Try.prog 3 #[.int .i64 r, .slice A xs.length c] w fun e w' => e = .returned (.bool true) ∧ Fr NoBlk w w' := by
  obtain ⟨l0, hl, hl0, hl1, hl2⟩ := info_parts intInfo
  have HR := Lib.hid hr
  have HX := Lib.hid hx
  have HM := Lib.hid hm
  clear hr hx
  unfold maxLen at hm
  go_enter Try.func3, Try.ntmps3
  go_wp2_with fail
  refine (speaks_any w).mono ?_
  rintro e w1 ⟨rfl, hf1⟩
  have HF1 := Lib.hid hf1
  clear hf1
  go_wp2_with fail
  refine (great_any w1 A c xs (HR.out.nofr HF1.out) (fun x h => (HX.out x h).nofr HF1.out) HM.out).mono ?_
  rintro e w2 ⟨⟨bb, rfl, hsm⟩, hf2⟩
  have HF2 := Lib.hid (HF1.out.trans hf2)
  have HSM := Lib.hid hsm
  clear hf2 hsm
  cases bb
  rotate_left
  · go_wp2_with fail
    go_ret
    exact ⟨rfl, HF2.out⟩
  have HS := Lib.hid (HSM.out rfl)
  clear HSM HF1
  by_cases hb1 : r < 1
  · have HN := Lib.hid (new_bad w2 r (.inl hb1))
    have d1 : decide (r < 1) = true := decide_eq_true hb1
    go_wp2_with fail
    refine HN.out.mono ?_
    clear HN
    rintro e w3 ⟨rfl, rfl⟩
    go_wp2_with fail
    go_ret
    exact ⟨rfl, HF2.out⟩
  by_cases hb2 : 1048576 < r
  · have HN := Lib.hid (new_bad w2 r (.inr hb2))
    have d1 : decide (r < 1) = false := decide_eq_false hb1
    have d2 : decide (1048576 < r) = true := decide_eq_true hb2
    go_wp2_with fail
    refine HN.out.mono ?_
    clear HN
    rintro e w3 ⟨rfl, rfl⟩
    go_wp2_with fail
    go_ret
    exact ⟨rfl, HF2.out⟩
  obtain ⟨n, rfl⟩ : ∃ n : Nat, r = n := ⟨r.toNat, by omega⟩
  have d1 : decide ((n : Int) < 1) = false := decide_eq_false hb1
  have d2 : decide ((1048576 : Int) < (n : Int)) = false := decide_eq_false hb2
  go_wp2_with fail
  refine (new_at w2 w2 (Fr.refl _ _) n (by omega) (by omega)).mono ?_
  rintro e w3 ⟨gd0, rfl, h3, hf3⟩
  have H3 := Lib.hid h3
  have HN := Lib.hid (rnew_any w3 n)
  clear h3 hf3
  go_wp2_with fail
  refine HN.out.mono ?_
  clear HN
  rintro e w4 ⟨rfl, hr4, hf4⟩
  have HP4 : Hid (Pair w2 w4 gd0 (pNew n) (rnew w3.heap.size n) NoBlk) := Pair.new H3.out hr4 hf4
  have HN4 : Hid ((rnew w3.heap.size n).pd = norm (pNew n)) := rfl
  clear hr4 hf4 H3
  go_wp2_with fail
  go_loopw [5, 7, 48] (fun dv mv s wr => ∃ (i gd : Nat) (p : PD) (m : RM), i ≤ xs.length ∧ dv = .pointer (some ⟨gd, 0, none⟩) ∧ mv = .pointer (some ⟨m.g, 0, none⟩) ∧ s = .int .i64 i ∧ Hid (m.pd = norm p) ∧ Hid (Pair w2 wr gd p m NoBlk)) (fun _ _ s _ => xs.length - (intOf s).toNat)
  case atStart => exact ⟨0, gd0, _, rnew w3.heap.size n, Nat.zero_le _, rfl, rfl, rfl, HN4, HP4⟩
  case round =>
    clear HP4 HN4
    obtain ⟨k, gd, p, m, hk, rfl, rfl, rfl, HMP, HPR⟩ := hrel
    have HFR := Lib.hid (HF2.out.trans HPR.out.fr)
    by_cases hlt : k < xs.length
    · obtain ⟨x, hx⟩ : ∃ x, xs[k]? = some x := ⟨_, List.getElem?_eq_getElem hlt⟩
      obtain ⟨b, o, rfl, c0, c1, c2, c3, c4, c5⟩ := (HR.out.nofr HFR.out).opn hx
      have HV := Lib.hid ((HX.out x (List.mem_of_getElem? hx)).nofr HF2.out)
      have HSX := Lib.hid (HS.out.o x (List.mem_of_getElem? hx))
      have HW : Hid (Fr NoBlk wr (wr.alloc (.cells (opa x) 34))) := (Fr.refl _ _).alloc _
      have HB : Hid (Bk (wr.alloc (.cells (opa x) 34)) wr.heap.size 34 (opa x)) := Bk.new _ _ _
      have HPB := Lib.hid (HPR.out.nofr HW.out)
      have HST := Lib.hid (step_any w2 _ gd p m HPB.out HMP.out x HV.out ⟨HSX.out.1, HSX.out.2.1, HSX.out.2.2.1⟩)
      have HKN := Lib.hid HV.out.2.1.1
      have hkl : x.keeps.2.2.length ≤ 100 := HSX.out.2.2.2
      clear hx HV HSX
      obtain ⟨kind, nn, nm, tt, ⟨va, vc, vb⟩, ⟨ka, kc, kb⟩⟩ := x
      unfold opa at HW HB HPB HST
      unfold st at c2 c3 HW HB HPB HST
      unfold sl at c4 HW HB HPB HST
      unfold nsl at c5 HW HB HPB HST
      dsimp only at c0 c1 c2 c3 c4 c5 HW HB HPB HST HKN hkl
      obtain ⟨q, hq, hq1⟩ := low_bits kind 15 (by omega)
      rw [show ((15 : Nat) : Int) = 15 from rfl] at hq
      by_cases hq9 : q = 9
      · subst hq9
        have HIL : Hid ((ics kb).length = kb.length * 1) := by show _ = _; unfold ics; rw [List.length_map, Nat.mul_one]
        have HIR : Hid (Rd ((wr.alloc (.cells #[.int .i64 kind, .int .i64 nn, .string (bstr nm), .string (bstr tt), .slice va vb.length vc, .slice ka kb.length kc] 34)).alloc (.cells #[] 3)) ka (ics kb)) := HKN.out.1.nofr (HPB.out.fr.trans ((Fr.refl _ _).alloc _))
        have hkn := HKN.out.2
        clear HST
        go_wp2_with (at_builtin; refine wpList_appB rfl _ _ 32 rfl 3 l0 _ 1 8 Try.underlying32 hl hl0 hl1 hl2 rfl (by decide) _ rfl ka kc kb.length (ics kb) rfl HIL.out HIR.out (ics_one _) hkn (by unfold maxLen; omega) (by omega) ?_)
        intro K4 kc4 w4 hg4
        have HG4 := Lib.hid hg4.ofAlloc
        clear hg4
        have HP4 := Lib.hid (HPB.out.nofr HG4.out.got.fr)
        have HB4 := Lib.hid (HB.out.fr HG4.out.got.fr fun h => h)
        have HCR := Lib.hid (crashS HP4.out.ats K4 kb.length kc4 kb rfl HG4.out.got.rd (by unfold maxLen; omega))
        clear HPB HB HIR HIL
        go_wp2_with fail
        refine HCR.out.mono ?_
        clear HCR
        rintro e w5 ⟨gx, rfl, hx5, hf5⟩
        have HX5 := Lib.hid hx5
        have HP5 := Lib.hid (HP4.out.nofr hf5)
        have HB5 := Lib.hid (HB4.out.fr hf5 fun h => h)
        have HSA := Lib.hid (same_any w2 w5 gd p m HP5.out HMP.out)
        clear hx5 hf5 HP4 HB4 HG4
        go_wp2_with fail
        refine HSA.out.mono ?_
        clear HSA
        rintro e w6 ⟨rfl, hf6⟩
        have HP6 := Lib.hid (HP5.out.nofr hf6)
        have HB6 := Lib.hid (HB5.out.fr hf6 fun h => h)
        have HF56 := Lib.hid hf6
        have b5 : w6.cell? ⟨wr.heap.size, 5, none⟩ = some (.slice ka kb.length kc) := HB6.out.cell 5
        have HFI := Lib.hid (HP6.out.fit HMP.out rfl rfl HP6.out.ats.leftB)
        have HRC := Lib.hid (rcrash_any w6 _ m HP6.out.rin HFI.out ka kc kb (HKN.out.1.nofr HP6.out.fr) (by unfold maxLen; omega))
        clear hf6 HP5 HB5
        go_wp2_with fail
        refine HRC.out.mono ?_
        clear HRC
        rintro e w7 ⟨m7, rfl, hm7, hr7, hf7⟩
        have HM7 : Hid (m7.pd = norm (pCrash p kb)) := by
          show _ = _
          rw [hm7, HMP.out]; rfl
        have HP7 : Hid (Pair w2 w7 gx (pCrash p kb) m7 NoBlk) := Pair.crash HX5.out HF56.out hr7 hf7
        have HSA := Lib.hid (same_any w2 w7 gx _ m7 HP7.out HM7.out)
        clear hm7 hr7 hf7 HX5 HF56 HFI HP6 HB6 b5
        go_wp2_with fail
        refine HSA.out.mono ?_
        clear HSA
        rintro e w8 ⟨rfl, hf8⟩
        have HP8 := Lib.hid (HP7.out.nofr hf8)
        clear hf8
        go_wp2_with fail
        go_roundw
        case rel => exact ⟨k + 1, gx, _, m7, by omega, rfl, rfl, by go_num, HM7, HP8⟩
        case measure => simp [intOf]; omega
      · have d9 : decide ((q : Int) = 9) = false := decide_eq_false (by omega)
        go_wp2_with fail
        refine HST.out.mono ?_
        clear HST
        rintro e w5 ⟨rfl, p5, m5, hm5, hg5, hp5⟩
        have HM5 := Lib.hid hm5
        have HP5 := Lib.hid hp5
        have HSA := Lib.hid (same_any w2 w5 gd p5 m5 hp5 hm5)
        have HG5 := Lib.hid hg5
        rw [hg5] at HSA
        clear hm5 hg5 hp5 HPB HB
        go_wp2_with fail
        refine HSA.out.mono ?_
        clear HSA
        rintro e w8 ⟨rfl, hf8⟩
        have HP8 := Lib.hid (HP5.out.nofr hf8)
        clear hf8
        go_wp2_with fail
        go_roundw
        case rel => exact ⟨k + 1, gd, p5, m5, by omega, rfl, by rw [HG5.out], by go_num, HM5, HP8⟩
        case measure => simp [intOf]; omega
    · go_wp2_with fail
      go_ret
      exact ⟨rfl, HFR.out⟩

theorem paramsOk : ∀ t ∈ Try.f3.params.toList, Try.prog.readableRec t = true ∧ t < Try.prog.types.size := fun t ht => by
  have h := List.all_eq_true.1 (show (Try.f3.params.toList.all fun t => Try.prog.readableRec t && decide (t < Try.prog.types.size)) = true by kernel_rfl) t ht
  simpa using h

set_option maxRecDepth 100000 in
theorem lifted (os : Os) (started : os.Started) (H : Type) (enc : TypeId × Value → H) :
    ReturnsInHanded {} Try.checked os 3 .any (Rows.diskPlaysSpec.pre6 enc Try.prog Try.f3 Rows.diskPlaysRow.domain false) (Rows.diskPlaysSpec.post enc Try.prog Try.f3 false true false false) := by
  refine returnsInHanded_of_change (C := Try.checked) own started (by kernel_rfl) Try.func3
    (ChangeSpec.witness6 (enc := enc) (C := Try.checked) false ⟨#[], #[.int .i64 0, .slice none 0 0], []⟩ 8 (by kernel_rfl) (by kernel_rfl) (by kernel_rfl) (by kernel_rfl)) ?_
  intro W base args ds gs before hval0 hW _ _
  have hval : ∀ (j : Nat) t v, Try.f3.params[j]? = some t → args[j]? = some v → Value.okWide Try.prog W .any base t v := hval0
  have hW' := hW
  obtain ⟨p, q, hA0, hV, rfl, _, _⟩ := hW
  have hA : DataW.TrodAll enc Try.prog W 0 (fun _ => true) true Try.f3.params.toList args.toList ds p := hA0
  rw [Try.params3] at hA hval
  obtain ⟨v0, vs0, d0, ds0, p0, q0, hargs, rfl, rfl, h0, r0⟩ := trodAll_cons hA
  obtain ⟨v1, vs1, d1, ds1, p1, q1, rfl, rfl, rfl, h1, r1⟩ := trodAll_cons r0
  obtain ⟨rfl, rfl, rfl⟩ := trodAll_nil r1
  obtain rfl : args = #[v0, v1] := by cases args; simp_all
  obtain ⟨rfl, rfl⟩ := trodVars_none hV
  obtain ⟨n, rfl, rfl, rfl, _⟩ := open_int Try.underlying3 (hval 0 _ v0 rfl rfl) h0
  obtain ⟨A, c, xs, rfl, hr, hx, hxc, hc⟩ := open_ops (hval 1 _ v1 rfl rfl) h1
  have walk := walk W n A c xs hr hx (Nat.le_trans hxc hc)
  clear hA0 hval0
  refine walk.mono fun e W' ⟨he, hf⟩ => ?_
  subst he
  exact ⟨_, rfl, law_post laidOut paramsOk rfl rfl Try.underlying4 hW' rfl rfl rfl hf⟩

theorem said : Rows.DiskPlaysSaid :=
  OpenClaim.holds_of_wide 3 Try.f3 rfl rfl rfl rfl rfl rfl rfl ⟨rfl, rfl, rfl, rfl, rfl⟩ rfl rfl rfl rfl rfl (by kernel_rfl) Try.func3 (by kernel_rfl)
    (of_decide_eq_true (by kernel_rfl)) (by unfold Func.isWrapper; first | (rw [if_pos (by decide +kernel)]; kernel_rfl) | (rw [if_neg (by decide +kernel)]; exact ⟨rfl, rfl⟩))
    (fun os started H enc _ => lifted os started H enc)
end Go.Proofs.Ytnmemdhajjibgaa.diskPlays
