/- CodeRows is true: frames in a row are taken off one behind the other, and each that is cut is short. No condition but what the card ties. -/
import Derived.Test.YtmghlalddgklaaaDoorOpen2
import Derived.Test.YtmghlalddgklaaaDoorNum2
import Derived.Test.YtmghlalddgklaaaDoorFrame3
namespace Go.Proofs.YtmghlalddgklaaaDoor.codeRows
open Go.ChangeShapes Go.WideShapes Go.ChangeAt Go.RowKit

def frames (ps : List Prt) : List UInt8 := ps.flatMap fun p => frameOf p.2.2
theorem frames_step (ps : List Prt) (k : Nat) (p : Prt) (h : ps[k]? = some p) : frames (ps.take (k + 1)) = frames (ps.take k) ++ frameOf p.2.2 := by
  unfold frames
  obtain ⟨hk, rfl⟩ := List.getElem?_eq_some_iff.1 h
  rw [List.take_succ_eq_append_getElem hk, List.flatMap_append]
  simp
theorem frames_split (ps : List Prt) (k : Nat) (p : Prt) (h : ps[k]? = some p) : frames ps = frames (ps.take k) ++ (frameOf p.2.2 ++ frames (ps.drop (k + 1))) := by
  conv => lhs; rw [← List.take_append_drop (k + 1) ps]
  rw [← List.append_assoc, ← frames_step ps k p h]
  unfold frames
  rw [List.flatMap_append]
theorem frames_len (ps : List Prt) (h : ∀ p ∈ ps, p.2.2.length ≤ 1000) : (frames ps).length ≤ 1006 * ps.length := by
  induction ps with
  | nil => simp [frames]
  | cons p t ih =>
    have h1 := ih fun q hq => h q (List.mem_cons_of_mem _ hq)
    have h2 := h p (List.mem_cons_self ..)
    show (frameOf p.2.2 ++ frames t).length ≤ _
    rw [List.length_append, frameOf_len, List.length_cons]
    omega

set_option maxRecDepth 100000 in
set_option maxHeartbeats 2000000 in
theorem walk (w : World) (ht : Tab w) (A : Option Addr) (c : Nat) (ps : List Prt) (k : Int) (hr : Rd w A (ps.map sl)) (hp : ∀ p ∈ ps, Part w p ∧ p.2.2.length ≤ p.2.1 ∧ p.2.1 ≤ maxLen) (hm : ps.length ≤ maxLen) :
    Calls Tryd.prog 11 #[.slice A ps.length c, .int .i64 k] w fun e w' => e = .returned (.bool true) ∧ Fr NoBlk w w' := by
  have HT := Lib.hid ht
  have HR := Lib.hid hr
  have HP := Lib.hid hp
  obtain ⟨q, hq, eq⟩ := i64_low k 16 (by omega)
  rw [show ((2 ^ 16 - 1 : Nat) : Int) = 65535 from rfl] at eq
  clear ht hr hp
  unfold maxLen at hm
  obtain ⟨i0, hi, hz0, hz1, hz2⟩ := info_parts byteInfo
  by_cases hbig : 20 < ps.length
  · go_enter Tryd.func11, Tryd.ntmps11
    go_wp2_with fail
    refine (speaks_any w HT.out).mono ?_
    rintro e w1 ⟨rfl, hf⟩
    have HF := Lib.hid hf
    clear hf
    go_wp2_with fail
    go_ret
    exact ⟨rfl, HF.out⟩
  · go_enter Tryd.func11, Tryd.ntmps11
    go_wp2_with fail
    refine (speaks_any w HT.out).mono ?_
    rintro e w1 ⟨rfl, hf⟩
    have HF := Lib.hid hf
    clear hf
    go_wp2_with fail
    have HO0 : Hid ((w1.alloc (.cells #[] 5)).ownsRow w1.heap.size 5 1 (.slice (some ⟨w1.heap.size, 0, none⟩) 0 0) (frames (ps.take 0)).length (cb (frames (ps.take 0)))) := World.ownsRow_made w1 #[] 0 (Nat.le_refl _) (by decide) rfl
    have HF0 := Lib.hid ((Fr.refl NoBlk w1).alloc (.cells #[] 5))
    go_loopw [5, 27] (fun v s wr => ∃ i : Nat, i ≤ ps.length ∧ s = .int .i64 i ∧ Hid (∀ p ∈ ps.take i, p.2.2.length ≤ 1000) ∧ Hid (wr.ownsRow w1.heap.size 5 1 v (frames (ps.take i)).length (cb (frames (ps.take i)))) ∧ Hid (Fr NoBlk w1 wr)) (fun _ s _ => ps.length - (intOf s).toNat)
    case atStart => exact ⟨0, Nat.zero_le _, rfl, (fun p h => by simp at h), HO0, HF0⟩
    case round =>
      obtain ⟨i, hin, rfl, HS, HO, HFR1⟩ := hrel
      have HFR := Lib.hid (HF.out.trans HFR1.out)
      obtain ⟨Av, cv, rfl, hcv, hAv⟩ := own_form HO.out
      have HCV := Lib.hid hcv
      have HAV := Lib.hid hAv
      clear hcv hAv
      by_cases hlt : i < ps.length
      · obtain ⟨p, hp⟩ : ∃ p, ps[i]? = some p := ⟨_, List.getElem?_eq_getElem hlt⟩
        obtain ⟨b, o, rfl, hcell⟩ := (HR.out.nofr HFR.out).at_ (k := i) (v := sl p) (by rw [List.getElem?_map, hp]; rfl)
        have HQ := Lib.hid (HP.out p (List.mem_of_getElem? hp))
        have HST := Lib.hid (frames_step ps i p hp)
        have HS1 : Hid (p.2.2.length ≤ 1000 → ∀ p ∈ ps.take (i + 1), p.2.2.length ≤ 1000) := by
          intro h r hr
          obtain ⟨hk, e⟩ := List.getElem?_eq_some_iff.1 hp
          rw [List.take_succ_eq_append_getElem hk] at hr
          rcases List.mem_append.1 hr with h1 | h1
          · exact HS.out r h1
          · rw [List.mem_singleton.1 h1, e]; exact h
        have HL := Lib.hid (frames_len (ps.take i) HS.out)
        obtain ⟨Ap, cp, lp⟩ := p
        unfold sl at hcell
        dsimp only at hcell HQ HST HS1
        have hpm : lp.length ≤ 9223372036854775807 := by
          have h1 := HQ.out.2.1; have h2 := HQ.out.2.2
          unfold maxLen at h2
          omega
        clear hp
        by_cases hlong : 1000 < lp.length
        · go_wp2_with fail
          go_ret
          exact ⟨rfl, HFR.out⟩
        · have HS2 := Lib.hid (HS1.out (by omega))
          have HK := Lib.hid (frame_any wr (HT.out.fr HFR.out (fun h => h)) Ap lp.length cp lp rfl (HQ.out.1.1.nofr HFR.out) HQ.out.1.2 (by omega))
          have HBND : Hid ((frames (ps.take i)).length + (6 + lp.length) ≤ 1000000) := by
            show _ ≤ _
            have h1 := HL.out
            have h2 : (ps.take i).length ≤ 20 := by rw [List.length_take]; omega
            omega
          clear hpm
          go_wp2_with fail
          refine HK.out.mono ?_
          clear HK
          rintro e w3 ⟨v3, rfl, hn3⟩
          obtain ⟨A3, c3, rfl, _, hA3⟩ := own_form hn3.own
          have HN3 := Lib.hid hn3
          have HA3 := Lib.hid hA3
          obtain ⟨fo, hfo⟩ : ∃ fo, fo = frameOf lp := ⟨_, rfl⟩
          have hfl : fo.length = 6 + lp.length := by rw [hfo, frameOf_len]
          rw [← hfo] at HN3 HST
          rw [← hfl] at HBND
          have HOW : Hid (w3.ownsRow w1.heap.size 5 1 (.slice Av (frames (ps.take i)).length cv) (frames (ps.take i)).length (cb (frames (ps.take i)))) := own_fr HO.out hn3.fr (fun _ _ h => h)
          have HF3 := Lib.hid (HFR1.out.trans hn3.fr)
          clear hn3 hA3 hfl
          rw [← hfo]
          clear hfo
          go_wp2_with (at_builtin; refine wpList_app rfl _ _ 26 rfl w1.heap.size 5 i0 (.int .u8 0) 1 Tryd.underlying26 hi hz0 hz1 hz2 rfl _ _ _ rfl HOW.out A3 c3 fo.length (cb fo) rfl (cb_length fo) (Rd.of_own HN3.out.own) (cb_one _) HA3.out ?c3 ?c4 ?c5 ?_)
          case c3 => have := HBND.out; unfold maxLen; omega
          case c4 => have := HBND.out; omega
          case c5 => exact HF3.out.size
          intro v4 w4 ho4 hgrow _ hblk
          have HX : Hid (w4.ownsRow w1.heap.size 5 1 v4 (frames (ps.take (i + 1))).length (cb (frames (ps.take (i + 1))))) := by
            rw [HST.out, List.length_append, cb_append]; exact ho4
          have HFX : Hid (Fr NoBlk w1 w4) := HF3.out.grown hgrow (fun k hk hlt => by
            exfalso
            rcases HOW.out.2 with ⟨h1, _⟩ | ⟨g, cap, cur, h1, h2, _⟩
            · rw [h1] at hk; cases hk
            · rw [h1] at hk
              simp [Value.ownBlock] at hk
              omega)
          clear ho4 hgrow hblk
          go_wp2
          go_roundw
          case rel => exact ⟨i + 1, by omega, by go_num, HS2, HX, HFX⟩
          case measure => simp [intOf]; omega
      · have HTK : Hid (ps.take i = ps) := List.take_of_length_le (by omega)
        rw [HTK.out] at HS HO HCV
        obtain ⟨T, hT⟩ : ∃ T, T = (frames (ps.take i)).length := ⟨_, rfl⟩
        rw [← hT]
        rw [HTK.out] at hT
        have hT2 : T ≤ 1000000 := by
          have := frames_len ps HS.out
          omega
        rw [← hT] at HO HCV
        have hTc := HCV.out
        have HTT := Lib.hid hT
        clear hT
        go_wp2_with fail
        obtain ⟨wb, hwb⟩ : ∃ wb, wb = wr := ⟨_, rfl⟩
        subst hwb
        go_loopw [45, 10] (fun s z wr => ∃ j o : Nat, j ≤ ps.length ∧ s = .int .i64 j ∧ z = .int .i64 o ∧ Hid (o = (frames (ps.take j)).length) ∧ Hid (Fr NoBlk wb wr)) (fun s _ _ => ps.length - (intOf s).toNat)
        case atStart => exact ⟨0, 0, Nat.zero_le _, rfl, rfl, rfl, Fr.refl _ _⟩
        case round =>
          obtain ⟨j, o, hjn, rfl, rfl, HOO, HFX⟩ := hrel
          have HFW := Lib.hid (HFR.out.trans HFX.out)
          by_cases hlt2 : j < ps.length
          · obtain ⟨p, hp⟩ : ∃ p, ps[j]? = some p := ⟨_, List.getElem?_eq_getElem hlt2⟩
            obtain ⟨b, bo, rfl, hcell⟩ := (HR.out.nofr HFW.out).at_ (k := j) (v := sl p) (by rw [List.getElem?_map, hp]; rfl)
            have HQ := Lib.hid (HP.out p (List.mem_of_getElem? hp))
            have hsp := frames_split ps j p hp
            have hst := congrArg List.length (frames_step ps j p hp)
            have hlp : p.2.2.length ≤ 1000 := HS.out p (List.mem_of_getElem? hp)
            obtain ⟨Ap, cp, lp⟩ := p
            unfold sl at hcell
            dsimp only at hcell HQ hsp hst hlp
            clear hp
            rw [List.length_append, frameOf_len] at hst
            have hdr : (frames ps).drop o = frameOf lp ++ frames (ps.drop (j + 1)) := by
              rw [hsp, HOO.out, List.drop_left]
            have hTo : o + (6 + lp.length) ≤ T := by
              have := congrArg List.length hsp
              rw [List.length_append, List.length_append, frameOf_len] at this
              rw [HTT.out, HOO.out]; omega
            have HO2 : Hid (o + (6 + lp.length) = (frames (ps.take (j + 1))).length) := by show _ = _; rw [hst, ← HOO.out]
            clear hsp hst
            rcases HO.out.2 with ⟨_, hv⟩ | ⟨g, cap, cur, hv, _⟩
            · omega
            have hAg : Av = some ⟨g, 0, none⟩ := by injection hv
            subst hAg
            clear hv
            have hrd : Rd wr (some ⟨g, o, none⟩) (cb ((frames ps).drop o)) := by
              have h := ((Rd.of_own HO.out).nofr HFX.out).cut (k := o) (cap := cv) (by rw [cb_length, ← HTT.out]; omega) (by rw [cb_length, ← HTT.out]; omega)
              rw [if_neg (by omega), ← cb_drop] at h
              have e : (some (⟨g, 0, none⟩ : Addr)).map (fun x => x.add o) = some ⟨g, o, none⟩ := by
                show some (Addr.add ⟨g, 0, none⟩ o) = _
                unfold Addr.add
                split <;> simp_all
              rw [e] at h
              exact h
            have hld : ((frames ps).drop o).length = T - o := by rw [List.length_drop, ← HTT.out]
            obtain ⟨N, hN⟩ : ∃ N, N = 6 + lp.length := ⟨_, rfl⟩
            have hk1 := unframe_any wr (HT.out.fr HFW.out (fun h => h)) (some ⟨g, o, none⟩) (T - o) (cv - o) ((frames ps).drop o) hld.symm hrd (fun h => by cases h) (by omega) (by omega)
            rw [hdr, unfr_frame lp _ (by omega)] at hk1
            rw [← hN] at hk1 HO2 hTo
            have HK1 := Lib.hid hk1
            obtain ⟨t, et, ht⟩ : ∃ t : Nat, (q : Int) % (N : Int) = (t : Int) ∧ t < N := ⟨q % N, by rw [Int.natCast_emod], Nat.mod_lt _ (by omega)⟩
            have HCUT : Hid (unfr (((frames ps).drop o).take t) = ([], 0, 30)) := by
              show _ = _
              rw [hdr, List.take_append_of_le_length (by rw [frameOf_len]; omega)]
              exact unfr_cut lp (by omega) t (by omega)
            have HRD := Lib.hid hrd
            have HLD := Lib.hid hld
            have HNN := Lib.hid hN
            have f1 : ((N : Int) != (lp.length : Int) + 6) = false := by
              rw [bne_eq_false_iff_eq]; omega
            have f2 : ((N : Int) == 0) = false := by rw [beq_eq_false_iff_ne]; omega
            have f3 : ¬ cv = o := by omega
            have f4 : (o : Int) ≤ (T : Int) := by omega
            have f5 : (T : Int) ≤ (cv : Int) := by omega
            have f6 : (o : Int) + (t : Int) ≤ (cv : Int) := by omega
            have f7 : (o : Int) ≤ (o : Int) + (t : Int) := by omega
            clear hk1 hrd hld hdr hN
            go_wp2_with fail
            refine HK1.out.mono ?_
            clear HK1
            rintro e w5 hp5
            unfold UnPost at hp5
            dsimp only at hp5
            obtain ⟨v5, rfl, hn5⟩ := hp5
            obtain ⟨A5, c5, rfl, _, _⟩ := own_form hn5.own
            have s1 := strOf w5 A5 _ c5 lp rfl (Rd.of_own hn5.own)
            have s2 := strOf w5 Ap _ cp lp rfl ((HQ.out.1.1.nofr HFW.out).nofr hn5.fr)
            have HF5 := Lib.hid (HFX.out.trans hn5.fr)
            have hk2 := unframe_any w5 (HT.out.fr (HFW.out.trans hn5.fr) (fun h => h)) (some ⟨g, o, none⟩) t (cv - o) (((frames ps).drop o).take t) (by rw [List.length_take, HLD.out]; omega) (by rw [cb_take]; exact (HRD.out.nofr hn5.fr).take t) (fun h => by cases h) (by rw [List.length_take, HLD.out]; omega) (by omega)
            rw [HCUT.out] at hk2
            have HK2 := Lib.hid hk2
            clear hk2 hn5
            go_wp2_with fail
            refine HK2.out.mono ?_
            clear HK2
            rintro e w6 hp6
            unfold UnPost at hp6
            dsimp only at hp6
            obtain ⟨v6, rfl, hn6⟩ := hp6
            have HF6 := Lib.hid (HF5.out.trans hn6.fr)
            clear hn6
            go_wp2_with fail
            go_roundw
            case rel => exact ⟨j + 1, o + N, by omega, by go_num, by go_num, HO2, HF6⟩
            case measure => simp [intOf]; omega
          · have h1 := HOO.out
            rw [List.take_of_length_le (by omega), ← HTT.out] at h1
            subst h1
            go_wp2_with fail
            go_ret
            exact ⟨rfl, HFW.out⟩

theorem paramsOk : ∀ t ∈ Tryd.f11.params.toList, Tryd.prog.readableRec t = true ∧ t < Tryd.prog.types.size := fun t ht => by
  have h := List.all_eq_true.1 (show (Tryd.f11.params.toList.all fun t => Tryd.prog.readableRec t && decide (t < Tryd.prog.types.size)) = true by kernel_rfl) t ht
  simpa using h
theorem paramsPlain : ∀ (j : Nat) t, Tryd.f11.params[j]? = some t → Tryd.prog.wantsStandIn t = false := fun j t ht => by
  have h := List.all_eq_true.1 (show (Tryd.f11.params.toList.all fun t => !Tryd.prog.wantsStandIn t) = true by kernel_rfl) t (by simpa using Array.mem_of_getElem? ht)
  simpa using h

theorem contract (H : Type) (enc : TypeId × Value → H) (W : World) (args : Array Value) (ds gs : List (DataW H)) (before : List MemPlace)
    (base : Nat) (hval : ∀ (j : Nat) t v, Tryd.f11.params[j]? = some t → args[j]? = some v → Value.okWide Tryd.prog W .any base t v)
    (hW : DataW.Whole enc Tryd.prog Tryd.f11.params.toList Rows.codeRowsSpec.vars false W args.toList ds gs before) (hL : laidMetH Tryd.prog Rows.codeRowsRow.laid W) :
    Calls Tryd.prog 11 args W fun e W' => ∃ v, e = .returned v ∧ Rows.codeRowsSpec.post enc Tryd.prog Tryd.f11 false true false false W args v W' := by
  have hW' := hW
  obtain ⟨p, q, hA, hV, rfl, _, _⟩ := hW
  rw [Tryd.params11] at hA hval
  obtain ⟨v0, vs0, d0, ds0, p0, q0, hargs, rfl, rfl, h0, r0⟩ := trodAll_cons hA
  obtain ⟨v1, vs1, d1, ds1, p1, q1, rfl, rfl, rfl, h1, r1⟩ := trodAll_cons r0
  obtain ⟨rfl, rfl, rfl⟩ := trodAll_nil r1
  obtain rfl : args = #[v0, v1] := by cases args; simp_all
  obtain ⟨rfl, rfl⟩ := trodVars_none hV
  obtain ⟨A, c, ps, rfl, hr, hp, hlc, hcm⟩ := open_rows (hval 0 _ v0 rfl rfl) h0
  obtain ⟨b, rfl, rfl, rfl, wb⟩ := open_int Tryd.underlying3 (hval 1 _ v1 rfl rfl) h1
  have walk := walk W (table hL) A c ps b hr hp (by omega)
  refine walk.mono fun e W' ⟨he, hf⟩ => ?_
  subst he
  exact ⟨_, rfl, law_post laidOut paramsOk rfl rfl Tryd.underlying4 hW' rfl rfl rfl hf⟩

theorem laid_met (os : Os) : laidMet Tryd.prog Rows.codeRowsRow.laid ((laidWorld os).forCall (fun _ _ => 0) ⟨#[], #[.slice none 0 0, .int .i64 0], []⟩).memory :=
  laidMet_of_run' 20 (by kernel_rfl) (by kernel_rfl)
theorem reads (os : Os) {H : Type} (enc : TypeId × Value → H) : ∃ places, DataW.whole enc Tryd.prog ((laidWorld os).forCall (fun _ _ => 0) ⟨#[], #[.slice none 0 0, .int .i64 0], []⟩).memory Tryd.f11.params.toList Rows.codeRowsSpec.vars false (#[.slice none 0 0, .int .i64 0] : Array Value).toList 8 = some ([.nil, .lit (.int .i64 0)], [], places) :=
  ⟨[], by kernel_rfl⟩

set_option maxRecDepth 100000 in
theorem lifted (os : Os) (started : os.Started) (H : Type) (enc : TypeId × Value → H) (F : Stop.Interp) :
    ReturnsInHanded {} Tryd.checked os 11 .any ((OpenSpec.ofChange Rows.codeRowsSpec).preRow enc Tryd.prog Tryd.f11 Rows.codeRowsRow.domain false Rows.codeRowsRow.laid) (((OpenSpec.ofChange Rows.codeRowsSpec).at F).post enc Tryd.prog Tryd.f11 false true false false) := by
  obtain ⟨places, hx⟩ := reads os enc
  refine returnsInHanded_of_row (C := Tryd.checked) (s := OpenSpec.ofChange Rows.codeRowsSpec) own started (by kernel_rfl) Tryd.func11
    (witness_row_at (enc := enc) (C := Tryd.checked) false (laidWorld os) #[.slice none 0 0, .int .i64 0] rfl (by kernel_rfl) (by kernel_rfl) (by kernel_rfl)
      (OpenSpec.preRow_of_cond 8 hx (by kernel_rfl) (fun k hk => by cases hk) (by kernel_rfl) (laid_met os))) ?_
  intro W base args ds gs before hval hW _ _ _ hL _ _
  exact contract H enc W args ds gs before base hval hW hL

theorem said : Rows.CodeRowsSaid :=
  OpenClaim.holds_of_cond 11 Tryd.f11 rfl rfl rfl rfl rfl rfl rfl ⟨rfl, rfl, rfl, rfl, rfl⟩ rfl rfl rfl rfl rfl (by kernel_rfl) Tryd.func11 (by kernel_rfl)
    (of_decide_eq_true (by kernel_rfl)) (by unfold Func.isWrapper; first | (rw [if_pos (by decide +kernel)]; kernel_rfl) | (rw [if_neg (by decide +kernel)]; exact ⟨rfl, rfl⟩))
    (fun os started H enc _ F => by rw [OpenClaim.pre_eq_preRow]; exact lifted os started H enc F)

theorem plain (f : FuncId) (fn : Func) (hf : Tryd.pinned.checked.prog.funcNamed "argosy/argosylaw01.CodeRows" = some f) (hfn : Tryd.pinned.checked.prog.funcs[f]? = some fn) :
    false = Tryd.pinned.checked.prog.looks [] ∧ ∀ (j : Nat) t, fn.params[j]? = some t → Tryd.pinned.checked.prog.wantsStandIn t = false := by
  obtain rfl : f = 11 := Option.some.inj ((show Tryd.prog.funcNamed "argosy/argosylaw01.CodeRows" = some 11 by kernel_rfl).symm.trans hf) |>.symm
  obtain rfl : fn = Tryd.f11 := (Option.some.inj (Tryd.func11.symm.trans hfn)).symm
  exact ⟨by kernel_rfl, paramsPlain⟩

theorem card : Rows.CodeRowsCardSaid :=
  Claim7.holds_tied_plain_at .later [] _ _ _ _ said (fun _ h => by cases h) (by kernel_rfl) (fun _ h => by cases h) codeRows_row_tie rfl ⟨rfl, rfl⟩ (by kernel_rfl) rfl plain (by kernel_rfl)
end Go.Proofs.YtmghlalddgklaaaDoor.codeRows
