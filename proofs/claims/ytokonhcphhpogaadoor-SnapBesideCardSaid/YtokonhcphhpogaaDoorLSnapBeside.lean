/- SnapBeside is true: checkpoints of unlike names don't disturb each other. No condition but what the card ties. -/
import Derived.Test.YtokonhcphhpogaaDoorLaw
import Derived.Test.YtokonhcphhpogaaDoorOpen
import Derived.Test.YtokonhcphhpogaaDoorLowB
import Derived.Test.YtokonhcphhpogaaDoorBesideP
namespace Go.Proofs.YtokonhcphhpogaaDoor.snapBeside
open Go.ChangeShapes Go.WideShapes Go.ChangeAt Go.RowKit

set_option maxRecDepth 100000 in
set_option maxHeartbeats 4000000 in
theorem walk (w : World) (ht : Tab w) (A : Option Addr) (c : Nat) (a : Bs) (B : Option Addr) (c' : Nat) (b : Bs) (hra : Part w (A, c, a)) (hca : a.length ≤ c) (hc : c ≤ maxLen) (hrb : Part w (B, c', b)) (hcb : b.length ≤ c') (hc' : c' ≤ maxLen) :
    Calls Tryd.prog 6 #[.slice A a.length c, .slice B b.length c'] w fun e w' => e = .returned (.bool true) ∧ Fr NoBlk w w' := by
  have HT := Lib.hid ht
  have HA := Lib.hid hra
  have HB := Lib.hid hrb
  have HCA := Lib.hid hca
  have HCB := Lib.hid hcb
  have ha : a.length ≤ 9223372036854775807 := by unfold maxLen at hc; omega
  have hb : b.length ≤ 9223372036854775807 := by unfold maxLen at hc'; omega
  clear ht hra hrb hca hcb hc hc'
  obtain ⟨la, hla⟩ : ∃ la, la = a.length := ⟨_, rfl⟩
  obtain ⟨lb, hlb⟩ : ∃ lb, lb = b.length := ⟨_, rfl⟩
  have HLA := Lib.hid hla
  have HLB := Lib.hid hlb
  rw [← hla] at ha ⊢
  rw [← hlb] at hb ⊢
  clear hla hlb
  go_enter Tryd.func6, Tryd.ntmps6
  go_wp2_with fail
  refine (speaks_any w HT.out).mono ?_
  rintro e w1 ⟨rfl, hf1⟩
  have HF1 := Lib.hid hf1
  clear hf1
  by_cases hb1 : 5000 < la
  · go_wp2_with fail
    go_ret
    exact ⟨rfl, HF1.out⟩
  by_cases hb2 : 5000 < lb
  · go_wp2_with fail
    go_ret
    exact ⟨rfl, HF1.out⟩
  have HLA5 : Hid (a.length ≤ 5000) := by show _ ≤ _; have := HLA.out; omega
  have HLB5 : Hid (b.length ≤ 5000) := by show _ ≤ _; have := HLB.out; omega
  have HT1 := Lib.hid (HT.out.fr HF1.out fun h => h)
  have HSA : Hid (∀ W p gd n, AtS w1 W gd p NoS → n.length ≤ maxLen → Calls Tryd.prog 20 #[.pointer (some ⟨gd, 0, none⟩), .string (bstr n), .slice A la c] W (CallPost w1 W gd (psave p n a) NoS)) := fun W p gd n h hn => by
    have h2 := save_any w1 W gd p NoS h (fun _ h => h.elim) HT1.out n hn A c a ⟨HA.out.1.nofr (HF1.out.trans h.fr), HA.out.2⟩ HCA.out (by have := HLA5.out; omega) fun hpos k hk => .inl ((HA.out.1.nofr HF1.out).lt (by rw [cb_length]; exact hpos) hk)
    rw [← HLA.out] at h2
    exact h2
  have HSB : Hid (∀ W p gd n, AtS w1 W gd p NoS → n.length ≤ maxLen → Calls Tryd.prog 20 #[.pointer (some ⟨gd, 0, none⟩), .string (bstr n), .slice B lb c'] W (CallPost w1 W gd (psave p n b) NoS)) := fun W p gd n h hn => by
    have h2 := save_any w1 W gd p NoS h (fun _ h => h.elim) HT1.out n hn B c' b ⟨HB.out.1.nofr (HF1.out.trans h.fr), HB.out.2⟩ HCB.out (by have := HLB5.out; omega) fun hpos k hk => .inl ((HB.out.1.nofr HF1.out).lt (by rw [cb_length]; exact hpos) hk)
    rw [← HLB.out] at h2
    exact h2
  go_wp2_with fail
  refine (new_at w1 w1 (Fr.refl _ _) 65536 (by omega) (by omega)).mono ?_
  rintro e w2 ⟨gd, rfl, h2, hf2⟩
  have h2' : AtS w1 w2 gd (pNew 65536) NoS := h2.prot (Fr.refl NoBlk _) fun _ h => h.elim
  have hc := HSA.out w2 (pNew 65536) gd [97] h2' (by unfold maxLen; simp)
  rw [bes1 a HLA5.out] at hc
  have HC := Lib.hid hc
  clear h2 h2' hf2 hc
  go_wp2_with fail
  refine HC.out.mono ?_
  clear HC
  rintro e w3 ⟨rfl, h, _⟩
  have hc := HSB.out w3 _ gd [98] h (by unfold maxLen; simp)
  rw [bes2 a b HLA5.out HLB5.out] at hc
  have HC := Lib.hid hc
  clear h hc
  go_wp2_with fail
  refine HC.out.mono ?_
  clear HC
  rintro e w4 ⟨rfl, h, _⟩
  have hc := HSB.out w4 _ gd [97] h (by unfold maxLen; simp)
  rw [bes3 a b b HLA5.out HLB5.out HLB5.out] at hc
  have HC := Lib.hid hc
  clear h hc
  go_wp2_with fail
  refine HC.out.mono ?_
  clear HC
  rintro e w5 ⟨rfl, h, _⟩
  have hc := HSA.out w5 _ gd [97] h (by unfold maxLen; simp)
  rw [bes3 b b a HLB5.out HLB5.out HLA5.out] at hc
  have HC := Lib.hid hc
  clear h hc
  go_wp2_with fail
  refine HC.out.mono ?_
  clear HC
  rintro e w6 ⟨rfl, h, _⟩
  have HAT := Lib.hid h
  have hc := load_any w1 w6 gd _ NoS h HT1.out [97] (by unfold maxLen; simp)
  rw [besA a b HLA5.out] at hc
  have HC := Lib.hid hc
  clear h hc
  go_wp2_with fail
  refine HC.out.mono ?_
  clear HC
  rintro e w7 ⟨v7, rfl, hn7⟩
  obtain ⟨A7, c7, rfl, _, _⟩ := own_form hn7.own
  have HR7 := Lib.hid (Rd.of_own hn7.own)
  have HAT7 := Lib.hid (HAT.out.nofr hn7.fr)
  have hc := load_any w1 w7 gd _ NoS HAT7.out HT1.out [98] (by unfold maxLen; simp)
  rw [besB a b HLB5.out] at hc
  have HC := Lib.hid hc
  clear hn7 hc HAT
  dsimp only
  rw [← HLA.out]
  go_wp2_with fail
  refine HC.out.mono ?_
  clear HC
  rintro e w8 ⟨v8, rfl, hn8⟩
  obtain ⟨A8, c8, rfl, _, _⟩ := own_form hn8.own
  have HR8 := Lib.hid (Rd.of_own hn8.own)
  have HR78 := Lib.hid (HR7.out.nofr hn8.fr)
  have HAT8 := Lib.hid (HAT7.out.nofr hn8.fr)
  have hc := load_any w1 w8 gd _ NoS HAT8.out HT1.out [99] (by unfold maxLen; simp)
  rw [besC a b] at hc
  have HC := Lib.hid hc
  clear hn8 hc HAT7 HR7
  dsimp only
  rw [← HLB.out]
  go_wp2_with fail
  refine HC.out.mono ?_
  clear HC
  rintro e w9 ⟨v9, rfl, hn9⟩
  obtain ⟨A9, c9, rfl, _, _⟩ := own_form hn9.own
  have HAT9 := Lib.hid (HAT8.out.nofr hn9.fr)
  have HFZ := Lib.hid (HF1.out.trans HAT9.out.fr)
  have HNM := Lib.hid (namesS HAT9.out)
  have s1 := strBs w9 A7 la c7 a HLA.out (HR78.out.nofr hn9.fr)
  have s2 := strBs w9 B lb c' b HLB.out (HB.out.1.nofr HFZ.out)
  have s3 := strBs w9 A8 lb c8 b HLB.out (HR8.out.nofr hn9.fr)
  have s4 := strBs w9 A la c a HLA.out (HA.out.1.nofr HFZ.out)
  clear hn9 HAT8
  dsimp only
  generalize bstr a = x3 at *
  generalize bstr b = x4 at *
  go_wp2_with fail
  refine HNM.out.mono ?_
  clear HNM
  rintro e w10 ⟨AN, cN, rfl, hnm⟩
  have HFN := Lib.hid (HFZ.out.trans hnm.fr)
  clear hnm
  rw [show (List.map (fun x : PF => x.name) (D2 [fa (pk a), fb (pk b)]).files).length = 2 from rfl]
  go_wp2_with fail
  go_ret
  exact ⟨by simp, HFN.out⟩

theorem paramsOk : ∀ t ∈ Tryd.f6.params.toList, Tryd.prog.readableRec t = true ∧ t < Tryd.prog.types.size := fun t ht => by
  have h := List.all_eq_true.1 (show (Tryd.f6.params.toList.all fun t => Tryd.prog.readableRec t && decide (t < Tryd.prog.types.size)) = true by kernel_rfl) t ht
  simpa using h
theorem paramsPlain : ∀ (j : Nat) t, Tryd.f6.params[j]? = some t → Tryd.prog.wantsStandIn t = false := fun j t ht => by
  have h := List.all_eq_true.1 (show (Tryd.f6.params.toList.all fun t => !Tryd.prog.wantsStandIn t) = true by kernel_rfl) t (by simpa using Array.mem_of_getElem? ht)
  simpa using h

set_option maxRecDepth 100000 in
theorem contract (H : Type) (enc : TypeId × Value → H) (W : World) (args : Array Value) (ds gs : List (DataW H)) (before : List MemPlace)
    (base : Nat) (hval : ∀ (j : Nat) t v, Tryd.f6.params[j]? = some t → args[j]? = some v → Value.okWide Tryd.prog W .any base t v)
    (hW : DataW.Whole enc Tryd.prog Tryd.f6.params.toList Rows.snapBesideSpec.vars false W args.toList ds gs before) (hL : laidMetH Tryd.prog Rows.snapBesideRow.laid W) :
    Calls Tryd.prog 6 args W fun e W' => ∃ v, e = .returned v ∧ Rows.snapBesideSpec.post enc Tryd.prog Tryd.f6 false true false false W args v W' := by
  have hW' := hW
  obtain ⟨p, q, hA, hV, rfl, _, _⟩ := hW
  rw [Tryd.params6] at hA hval
  obtain ⟨v0, vs0, d0, ds0, p0, q0, hargs, rfl, rfl, h0, r0⟩ := trodAll_cons hA
  obtain ⟨v1, vs1, d1, ds1, p1, q1, rfl, rfl, rfl, h1, r1⟩ := trodAll_cons r0
  obtain ⟨rfl, rfl, rfl⟩ := trodAll_nil r1
  obtain rfl : args = #[v0, v1] := by cases args; simp_all
  obtain ⟨rfl, rfl⟩ := trodVars_none hV
  obtain ⟨A, c, a, rfl, hr, hA1, hac, hc⟩ := open_bytes (hval 0 _ v0 rfl rfl) h0
  obtain ⟨B, c', b, rfl, hr', hA1', hac', hc'⟩ := open_bytes (hval 1 _ v1 rfl rfl) h1
  have walk := walk W (table hL) A c a B c' b ⟨hr, hA1⟩ hac hc ⟨hr', hA1'⟩ hac' hc'
  refine walk.mono fun e W' ⟨he, hf⟩ => ?_
  subst he
  exact ⟨_, rfl, law_post laidOut paramsOk rfl rfl Tryd.underlying4 hW' rfl rfl rfl hf⟩

theorem laid_met (os : Os) : laidMet Tryd.prog Rows.snapBesideRow.laid ((laidWorld os).forCall (fun _ _ => 0) ⟨#[], #[.slice none 0 0, .slice none 0 0], []⟩).memory :=
  laidMet_of_run' 20 (by kernel_rfl) (by kernel_rfl)
theorem reads (os : Os) {H : Type} (enc : TypeId × Value → H) : ∃ places, DataW.whole enc Tryd.prog ((laidWorld os).forCall (fun _ _ => 0) ⟨#[], #[.slice none 0 0, .slice none 0 0], []⟩).memory Tryd.f6.params.toList Rows.snapBesideSpec.vars false (#[.slice none 0 0, .slice none 0 0] : Array Value).toList 8 = some ([.nil, .nil], [], places) :=
  ⟨[], by kernel_rfl⟩

set_option maxRecDepth 100000 in
theorem lifted (os : Os) (started : os.Started) (H : Type) (enc : TypeId × Value → H) (F : Stop.Interp) :
    ReturnsInHanded {} Tryd.checked os 6 .any ((OpenSpec.ofChange Rows.snapBesideSpec).preRow enc Tryd.prog Tryd.f6 Rows.snapBesideRow.domain false Rows.snapBesideRow.laid) (((OpenSpec.ofChange Rows.snapBesideSpec).at F).post enc Tryd.prog Tryd.f6 false true false false) := by
  obtain ⟨places, hx⟩ := reads os enc
  refine returnsInHanded_of_row (C := Tryd.checked) (s := OpenSpec.ofChange Rows.snapBesideSpec) own started (by kernel_rfl) Tryd.func6
    (witness_row_at (enc := enc) (C := Tryd.checked) false (laidWorld os) #[.slice none 0 0, .slice none 0 0] rfl (by kernel_rfl) (by kernel_rfl) (by kernel_rfl)
      (OpenSpec.preRow_of_cond 8 hx (by kernel_rfl) (fun k hk => by cases hk) (by kernel_rfl) (laid_met os))) ?_
  intro W base args ds gs before hval hW _ _ _ hL _ _
  exact contract H enc W args ds gs before base hval hW hL

theorem said : Rows.SnapBesideSaid :=
  OpenClaim.holds_of_cond 6 Tryd.f6 rfl rfl rfl rfl rfl rfl rfl ⟨rfl, rfl, rfl, rfl, rfl⟩ rfl rfl rfl rfl rfl (by kernel_rfl) Tryd.func6 (by kernel_rfl)
    (of_decide_eq_true (by kernel_rfl)) (by unfold Func.isWrapper; first | (rw [if_pos (by decide +kernel)]; kernel_rfl) | (rw [if_neg (by decide +kernel)]; exact ⟨rfl, rfl⟩))
    (fun os started H enc _ F => by rw [OpenClaim.pre_eq_preRow]; exact lifted os started H enc F)

theorem plain (f : FuncId) (fn : Func) (hf : Tryd.pinned.checked.prog.funcNamed "argosy/argosylaw08.SnapBeside" = some f) (hfn : Tryd.pinned.checked.prog.funcs[f]? = some fn) :
    false = Tryd.pinned.checked.prog.looks [] ∧ ∀ (j : Nat) t, fn.params[j]? = some t → Tryd.pinned.checked.prog.wantsStandIn t = false := by
  obtain rfl : f = 6 := Option.some.inj ((show Tryd.prog.funcNamed "argosy/argosylaw08.SnapBeside" = some 6 by kernel_rfl).symm.trans hf) |>.symm
  obtain rfl : fn = Tryd.f6 := (Option.some.inj (Tryd.func6.symm.trans hfn)).symm
  exact ⟨by kernel_rfl, paramsPlain⟩

theorem card : Rows.SnapBesideCardSaid :=
  Claim7.holds_tied_plain_at .later [] _ _ _ _ said (fun _ h => by cases h) (by kernel_rfl) (fun _ h => by cases h) snapBeside_row_tie rfl ⟨rfl, rfl⟩ (by kernel_rfl) rfl plain (by kernel_rfl)
end Go.Proofs.YtokonhcphhpogaaDoor.snapBeside
