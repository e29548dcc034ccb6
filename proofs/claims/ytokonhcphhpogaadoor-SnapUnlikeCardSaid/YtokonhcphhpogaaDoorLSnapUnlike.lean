/- SnapUnlike is true: unlike bodies have unlike bytes; no beginning of a body's bytes is a body's. No condition but what the card ties. -/
import Derived.Test.YtokonhcphhpogaaDoorLaw
import Derived.Test.YtokonhcphhpogaaDoorOpen
import Derived.Test.YtokonhcphhpogaaDoorLowB
namespace Go.Proofs.YtokonhcphhpogaaDoor.snapUnlike
open Go.ChangeShapes Go.WideShapes Go.ChangeAt Go.RowKit

set_option maxRecDepth 100000 in
set_option maxHeartbeats 4000000 in
theorem walk (w : World) (ht : Tab w) (A : Option Addr) (c : Nat) (a : Bs) (B : Option Addr) (c' : Nat) (b : Bs) (k : Int) (hra : Part w (A, c, a)) (hca : a.length ≤ c) (hc : c ≤ maxLen) (hrb : Part w (B, c', b)) (hcb : b.length ≤ c') (hc' : c' ≤ maxLen) :
    Calls Tryd.prog 7 #[.slice A a.length c, .slice B b.length c', .int .i64 k] w fun e w' => e = .returned (.bool true) ∧ Fr NoBlk w w' := by
  have HT := Lib.hid ht
  have HA := Lib.hid hra
  have HB := Lib.hid hrb
  have HCA := Lib.hid hca
  have HCB := Lib.hid hcb
  obtain ⟨q, hq, hq1⟩ := low_bits k 65535 (by omega)
  rw [show ((65535 : Nat) : Int) = 65535 from rfl] at hq
  have ha : a.length ≤ 9223372036854775807 := by unfold maxLen at hc; omega
  have hb : b.length ≤ 9223372036854775807 := by unfold maxLen at hc'; omega
  clear ht hra hrb hca hcb hc hc'
  obtain ⟨la, hla⟩ : ∃ la, la = a.length := ⟨_, rfl⟩
  obtain ⟨lb, hlb⟩ : ∃ lb, lb = b.length := ⟨_, rfl⟩
  have HLA := Lib.hid hla
  have HLB := Lib.hid hlb
  rw [← hla] at ha ⊢
  rw [← hlb] at hb ⊢
  clear hla hlb
  go_enter Tryd.func7, Tryd.ntmps7
  go_wp2_with fail
  refine (speaks_any w HT.out).mono ?_
  rintro e w1 ⟨rfl, hf1⟩
  have HF1 := Lib.hid hf1
  clear hf1
  by_cases hb1 : 5000 < la
  · go_wp2_with fail
    go_ret
    exact ⟨rfl, HF1.out⟩
  by_cases hb2 : 5000 < lb
  · go_wp2_with fail
    go_ret
    exact ⟨rfl, HF1.out⟩
  have HLA5 : Hid (a.length ≤ 5000) := by show _ ≤ _; have := HLA.out; omega
  have HLB5 : Hid (b.length ≤ 5000) := by show _ ≤ _; have := HLB.out; omega
  have hp := pack_any w1 (HT.out.fr HF1.out fun h => h) A c a ⟨HA.out.1.nofr HF1.out, HA.out.2⟩ HCA.out (by have := HLA5.out; omega)
  rw [← HLA.out] at hp
  have HP := Lib.hid hp
  clear hp
  go_wp2_with fail
  refine HP.out.mono ?_
  clear HP
  rintro e w2 ⟨v2, rfl, hn2⟩
  obtain ⟨A2, c2, rfl, hc2, hA2⟩ := own_form hn2.own
  have HF2 := Lib.hid (HF1.out.trans hn2.fr)
  have HO2 := Lib.hid hn2.own
  have HC2 := Lib.hid hc2
  have HA2 := Lib.hid hA2
  have hp := pack_any w2 (HT.out.fr HF2.out fun h => h) B c' b ⟨HB.out.1.nofr HF2.out, HB.out.2⟩ HCB.out (by have := HLB5.out; omega)
  rw [← HLB.out] at hp
  have HP := Lib.hid hp
  clear hp hn2 hc2 hA2
  obtain ⟨n2, hn2⟩ : ∃ n2, n2 = (pk a).length := ⟨_, rfl⟩
  have HN2 := Lib.hid hn2
  have h6 : 6 ≤ n2 := by rw [hn2]; exact pk_pos a
  have h7 : n2 ≤ 100000 := by rw [hn2]; have := pk_len a (by have := HLA5.out; omega); have := HLA5.out; omega
  rw [← hn2] at HO2 HC2 ⊢
  clear hn2
  go_wp2_with fail
  refine HP.out.mono ?_
  clear HP
  rintro e w3 ⟨v3, rfl, hn3⟩
  obtain ⟨A3, c3, rfl, hc3, hA3⟩ := own_form hn3.own
  have HF3 := Lib.hid (HF2.out.trans hn3.fr)
  have HO3 := Lib.hid hn3.own
  have HR2 : Hid (Rd w3 A2 (cb (pk a))) := (Rd.of_own HO2.out).nofr hn3.fr
  clear hn3 hc3 hA3
  obtain ⟨n3, hn3⟩ : ∃ n3, n3 = (pk b).length := ⟨_, rfl⟩
  have HN3 := Lib.hid hn3
  rw [← hn3] at HO3 ⊢
  clear hn3
  obtain ⟨m, hm⟩ : ∃ m, m = q % n2 := ⟨_, rfl⟩
  have hml : m < n2 := by rw [hm]; exact Nat.mod_lt _ (by omega)
  have e1 : (q : Int) % (n2 : Int) = (m : Int) := by rw [hm]; rfl
  have e2 : (q : Int).tmod (n2 : Int) = (m : Int) := by rw [hm]; rfl
  clear hm
  have hu := unpack_any w3 (HT.out.fr HF3.out fun h => h) A2 c2 ((pk a).take m) ⟨by rw [cb_take]; exact HR2.out.take m, HA2.out⟩ (by rw [List.length_take, ← HN2.out]; have := HC2.out; omega) (by rw [List.length_take, ← HN2.out]; omega)
  rw [unpk_cut a (by have := HLA5.out; omega) m (by rw [← HN2.out]; exact hml), List.length_take, ← HN2.out, Nat.min_eq_left (by omega)] at hu
  have HU := Lib.hid hu
  have f1 : (m : Int) ≤ (c2 : Int) := by have := HC2.out; omega
  clear hu
  go_wp2_with fail
  refine HU.out.mono ?_
  clear HU
  rintro e w4 ⟨v4, rfl, hn4⟩
  have HF4 := Lib.hid (HF3.out.trans hn4.fr)
  have s1 := strBs w4 A2 n2 c2 (pk a) HN2.out (HR2.out.nofr hn4.fr)
  have s2 := strBs w4 A3 n3 c3 (pk b) HN3.out ((Rd.of_own HO3.out).nofr hn4.fr)
  have s3 := strBs w4 A la c a HLA.out (HA.out.1.nofr HF4.out)
  have s4 := strBs w4 B lb c' b HLB.out (HB.out.1.nofr HF4.out)
  obtain ⟨A4, c4, rfl, _, _⟩ := own_form hn4.own
  clear hn4
  dsimp only
  by_cases hab : a = b
  · subst hab
    go_wp2_with fail
    go_ret
    exact ⟨by simp, HF4.out⟩
  · have t1 : bstr (pk a) ≠ bstr (pk b) := fun h => hab (pk_inj (by have := HLA5.out; omega) (by have := HLB5.out; omega) (bstr_inj h))
    have t2 : bstr a ≠ bstr b := fun h => hab (bstr_inj h)
    have u1 : ((bstr (pk a)).toList == (bstr (pk b)).toList) = false := beq_eq_false_iff_ne.2 fun h => t1 (by rw [bstr_toList, bstr_toList] at h; rw [h])
    have u2 : ((bstr a).toList == (bstr b).toList) = false := beq_eq_false_iff_ne.2 fun h => t2 (by rw [bstr_toList, bstr_toList] at h; rw [h])
    clear hab
    generalize bstr (pk a) = x1 at *
    generalize bstr (pk b) = x2 at *
    generalize bstr a = x3 at *
    generalize bstr b = x4 at *
    go_wp2_with fail
    go_ret
    exact ⟨by simp, HF4.out⟩

theorem paramsOk : ∀ t ∈ Tryd.f7.params.toList, Tryd.prog.readableRec t = true ∧ t < Tryd.prog.types.size := fun t ht => by
  have h := List.all_eq_true.1 (show (Tryd.f7.params.toList.all fun t => Tryd.prog.readableRec t && decide (t < Tryd.prog.types.size)) = true by kernel_rfl) t ht
  simpa using h
theorem paramsPlain : ∀ (j : Nat) t, Tryd.f7.params[j]? = some t → Tryd.prog.wantsStandIn t = false := fun j t ht => by
  have h := List.all_eq_true.1 (show (Tryd.f7.params.toList.all fun t => !Tryd.prog.wantsStandIn t) = true by kernel_rfl) t (by simpa using Array.mem_of_getElem? ht)
  simpa using h

set_option maxRecDepth 100000 in
theorem contract (H : Type) (enc : TypeId × Value → H) (W : World) (args : Array Value) (ds gs : List (DataW H)) (before : List MemPlace)
    (base : Nat) (hval : ∀ (j : Nat) t v, Tryd.f7.params[j]? = some t → args[j]? = some v → Value.okWide Tryd.prog W .any base t v)
    (hW : DataW.Whole enc Tryd.prog Tryd.f7.params.toList Rows.snapUnlikeSpec.vars false W args.toList ds gs before) (hL : laidMetH Tryd.prog Rows.snapUnlikeRow.laid W) :
    Calls Tryd.prog 7 args W fun e W' => ∃ v, e = .returned v ∧ Rows.snapUnlikeSpec.post enc Tryd.prog Tryd.f7 false true false false W args v W' := by
  have hW' := hW
  obtain ⟨p, q, hA, hV, rfl, _, _⟩ := hW
  rw [Tryd.params7] at hA hval
  obtain ⟨v0, vs0, d0, ds0, p0, q0, hargs, rfl, rfl, h0, r0⟩ := trodAll_cons hA
  obtain ⟨v1, vs1, d1, ds1, p1, q1, rfl, rfl, rfl, h1, r1⟩ := trodAll_cons r0
  obtain ⟨v2, vs2, d2, ds2, p2, q2, rfl, rfl, rfl, h2, r2⟩ := trodAll_cons r1
  obtain ⟨rfl, rfl, rfl⟩ := trodAll_nil r2
  obtain rfl : args = #[v0, v1, v2] := by cases args; simp_all
  obtain ⟨rfl, rfl⟩ := trodVars_none hV
  obtain ⟨A, c, a, rfl, hr, hA1, hac, hc⟩ := open_bytes (hval 0 _ v0 rfl rfl) h0
  obtain ⟨B, c', b, rfl, hr', hA1', hac', hc'⟩ := open_bytes (hval 1 _ v1 rfl rfl) h1
  obtain ⟨z, rfl, rfl, rfl, wz⟩ := open_int Tryd.underlying3 (hval 2 _ v2 rfl rfl) h2
  have walk := walk W (table hL) A c a B c' b z ⟨hr, hA1⟩ hac hc ⟨hr', hA1'⟩ hac' hc'
  refine walk.mono fun e W' ⟨he, hf⟩ => ?_
  subst he
  exact ⟨_, rfl, law_post laidOut paramsOk rfl rfl Tryd.underlying4 hW' rfl rfl rfl hf⟩

theorem laid_met (os : Os) : laidMet Tryd.prog Rows.snapUnlikeRow.laid ((laidWorld os).forCall (fun _ _ => 0) ⟨#[], #[.slice none 0 0, .slice none 0 0, .int .i64 0], []⟩).memory :=
  laidMet_of_run' 20 (by kernel_rfl) (by kernel_rfl)
theorem reads (os : Os) {H : Type} (enc : TypeId × Value → H) : ∃ places, DataW.whole enc Tryd.prog ((laidWorld os).forCall (fun _ _ => 0) ⟨#[], #[.slice none 0 0, .slice none 0 0, .int .i64 0], []⟩).memory Tryd.f7.params.toList Rows.snapUnlikeSpec.vars false (#[.slice none 0 0, .slice none 0 0, .int .i64 0] : Array Value).toList 8 = some ([.nil, .nil, .lit (.int .i64 0)], [], places) :=
  ⟨[], by kernel_rfl⟩

set_option maxRecDepth 100000 in
theorem lifted (os : Os) (started : os.Started) (H : Type) (enc : TypeId × Value → H) (F : Stop.Interp) :
    ReturnsInHanded {} Tryd.checked os 7 .any ((OpenSpec.ofChange Rows.snapUnlikeSpec).preRow enc Tryd.prog Tryd.f7 Rows.snapUnlikeRow.domain false Rows.snapUnlikeRow.laid) (((OpenSpec.ofChange Rows.snapUnlikeSpec).at F).post enc Tryd.prog Tryd.f7 false true false false) := by
  obtain ⟨places, hx⟩ := reads os enc
  refine returnsInHanded_of_row (C := Tryd.checked) (s := OpenSpec.ofChange Rows.snapUnlikeSpec) own started (by kernel_rfl) Tryd.func7
    (witness_row_at (enc := enc) (C := Tryd.checked) false (laidWorld os) #[.slice none 0 0, .slice none 0 0, .int .i64 0] rfl (by kernel_rfl) (by kernel_rfl) (by kernel_rfl)
      (OpenSpec.preRow_of_cond 8 hx (by kernel_rfl) (fun k hk => by cases hk) (by kernel_rfl) (laid_met os))) ?_
  intro W base args ds gs before hval hW _ _ _ hL _ _
  exact contract H enc W args ds gs before base hval hW hL

theorem said : Rows.SnapUnlikeSaid :=
  OpenClaim.holds_of_cond 7 Tryd.f7 rfl rfl rfl rfl rfl rfl rfl ⟨rfl, rfl, rfl, rfl, rfl⟩ rfl rfl rfl rfl rfl (by kernel_rfl) Tryd.func7 (by kernel_rfl)
    (of_decide_eq_true (by kernel_rfl)) (by unfold Func.isWrapper; first | (rw [if_pos (by decide +kernel)]; kernel_rfl) | (rw [if_neg (by decide +kernel)]; exact ⟨rfl, rfl⟩))
    (fun os started H enc _ F => by rw [OpenClaim.pre_eq_preRow]; exact lifted os started H enc F)

theorem plain (f : FuncId) (fn : Func) (hf : Tryd.pinned.checked.prog.funcNamed "argosy/argosylaw08.SnapUnlike" = some f) (hfn : Tryd.pinned.checked.prog.funcs[f]? = some fn) :
    false = Tryd.pinned.checked.prog.looks [] ∧ ∀ (j : Nat) t, fn.params[j]? = some t → Tryd.pinned.checked.prog.wantsStandIn t = false := by
  obtain rfl : f = 7 := Option.some.inj ((show Tryd.prog.funcNamed "argosy/argosylaw08.SnapUnlike" = some 7 by kernel_rfl).symm.trans hf) |>.symm
  obtain rfl : fn = Tryd.f7 := (Option.some.inj (Tryd.func7.symm.trans hfn)).symm
  exact ⟨by kernel_rfl, paramsPlain⟩

theorem card : Rows.SnapUnlikeCardSaid :=
  Claim7.holds_tied_plain_at .later [] _ _ _ _ said (fun _ h => by cases h) (by kernel_rfl) (fun _ h => by cases h) snapUnlike_row_tie rfl ⟨rfl, rfl⟩ (by kernel_rfl) rfl plain (by kernel_rfl)
end Go.Proofs.YtokonhcphhpogaaDoor.snapUnlike
