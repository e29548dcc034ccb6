/- DurableStates is true: whatever becomes of a state's keeping, the next life finds the elder state, or the new one; behind an OK the new one. No condition but what the card ties. -/
import Derived.Test.YtafiokabnlmgpaaGreatDoorLawOL
namespace Go.Proofs.YtafiokabnlmgpaaGreatDoor.durableStates
open Go.ChangeShapes Go.WideShapes Go.ChangeAt Go.RowKit

set_option maxRecDepth 100000 in
set_option maxHeartbeats 8000000 in
theorem walk (w : World) (ht : Tab w) (A : Option Addr) (c : Nat) (a : Bs) (B : Option Addr) (c' : Nat) (b : Bs) (calls : Int) (hra : Part w (A, c, a)) (hca : a.length ≤ c) (hc : c ≤ maxLen) (hrb : Part w (B, c', b)) (hcb : b.length ≤ c') (hc' : c' ≤ maxLen) :
    Calls Tryz.prog 5 #[.slice A a.length c, .slice B b.length c', .int .i64 calls] w fun e w' => e = .returned (.bool true) ∧ Fr NoBlk w w' := by
  have HT := Lib.hid ht
  have HA := Lib.hid hra
  have HB := Lib.hid hrb
  have HCA := Lib.hid hca
  have HCB := Lib.hid hcb
  have ha : a.length ≤ 9223372036854775807 := by unfold maxLen at hc; omega
  have hb : b.length ≤ 9223372036854775807 := by unfold maxLen at hc'; omega
  obtain ⟨q, hq, hq7⟩ := low_bits calls 7 (by omega)
  rw [show ((7 : Nat) : Int) = 7 from rfl] at hq
  have HSP := Lib.hid (speaks_any w ht)
  clear ht hra hrb hca hcb hc hc'
  obtain ⟨la, hla⟩ : ∃ la, la = a.length := ⟨_, rfl⟩
  obtain ⟨lb', hlb⟩ : ∃ lb', lb' = b.length := ⟨_, rfl⟩
  have HLA := Lib.hid hla
  have HLB := Lib.hid hlb
  rw [← hla] at ha ⊢
  rw [← hlb] at hb ⊢
  clear hla hlb
  go_enter Tryz.func5, Tryz.ntmps5
  go_wp2_with fail
  refine HSP.out.mono ?_
  clear HSP
  rintro e w1 ⟨rfl, hf1⟩
  have HF1 := Lib.hid hf1
  clear hf1
  by_cases hb1 : 3000 < la
  · go_wp2_with fail
    go_ret
    exact ⟨rfl, HF1.out⟩
  by_cases hb2 : 3000 < lb'
  · go_wp2_with fail
    go_ret
    exact ⟨rfl, HF1.out⟩
  have HLA3 : Hid (a.length ≤ 3000) := by show _ ≤ _; have := HLA.out; omega
  have HLB3 : Hid (b.length ≤ 3000) := by show _ ≤ _; have := HLB.out; omega
  have HT1 := Lib.hid (HT.out.fr HF1.out fun h => h)
  go_wp2_with fail
  refine (new_at w1 w1 (Fr.refl _ _) 262144 (by omega) (by omega)).mono ?_
  rintro e w2 ⟨gd, rfl, h2, hf2⟩
  have hfm := format_any w1 w2 gd 262144 (by omega) NoS (h2.prot (Fr.refl NoBlk _) fun _ h => h.elim) (fun _ h => h.elim) HT1.out
  have HFM := Lib.hid hfm
  clear h2 hf2 hfm HT
  go_wp2_with fail
  refine HFM.out.mono ?_
  clear HFM
  rintro e w3 ⟨rfl, h3, hf3⟩
  have hg3 : Fr NoBlk w3 (w3.alloc (.cells #[.int .i64 0] 3)) := (Fr.refl _ _).alloc _
  have hop := dopen_any w1 _ gd _ ⟨262144, -1, false, [lf (lb 1 1)]⟩ (fun k => k = w3.heap.size) (h3.prot hg3 (fun _ _ h => h.elim) fun k hk => .inr (by omega)) (fun k hk => by rw [World.size_alloc]; omega) HT1.out w3.heap.size _ (Bk.new w3 3 #[.int .i64 0]) rfl 0 true 0 (.inl (life_load 262144 0 1 (by omega) [])) 0 rfl (by omega) (life_again 262144 1 1 0 1 (by omega) [] (.inl rfl) (by show 0 + 300 ≤ 262144; omega) (by omega)) ⟨rfl, rfl⟩ (no_log 262144 _ [] (.inl rfl))
  have HOP := Lib.hid hop
  clear h3 hf3 hg3 hop
  go_wp2_with fail
  refine HOP.out.mono ?_
  clear HOP
  rintro e w5 ⟨gk, mb, rfl, h5, hb5, hgk, hf5⟩
  have HB5 := Lib.hid hb5
  have H5 := Lib.hid h5
  have HS5 : Hid (∀ k, (k = w3.heap.size ∨ k = gk) → k < w5.heap.size) := fun k hk => by
    have h1 := hb5.lt
    have h2 := hf5.size
    rw [World.size_alloc] at h2
    rcases hk with rfl | rfl <;> omega
  have hsa := ksave_any w1 w5 gd gk 0 mb true _ _ H5.out HS5.out hb5 HT1.out A c la a HLA.out ⟨HA.out.1.nofr (HF1.out.trans h5.fr), HA.out.2⟩ HCA.out (by have := HLA3.out; omega) fun hpos k hk => .inl ((HA.out.1.nofr HF1.out).lt (by rw [cb_length]; exact hpos) hk)
  rw [state_new 1 1 (by omega) a HLA3.out] at hsa
  have HSA := Lib.hid hsa
  clear h5 hb5 hgk hf5 hsa H5
  go_wp2_with fail
  refine HSA.out.mono ?_
  clear HSA
  rintro e w6 ⟨rfl, h6, hf6⟩
  have HB6 := Lib.hid (HB5.out.fr hf6 fun h => h.1 (.inr rfl))
  have HS6 : Hid (∀ k, (k = w3.heap.size ∨ k = gk) → k < w6.heap.size) := fun k hk => Nat.lt_of_lt_of_le (HS5.out k hk) hf6.size
  have HLM := Lib.hid (limitS h6 (q : Int) (by omega))
  clear h6 hf6 HB5 HS5
  go_wp2_with fail
  refine HLM.out.mono ?_
  clear HLM
  rintro e w7 ⟨rfl, h7, hf7⟩
  have hb7 := HB6.out.fr hf7 fun h => h.1 (.inr rfl)
  have hsb := ksave_any w1 w7 gd gk 0 mb true _ _ h7 (fun k hk => Nat.lt_of_lt_of_le (HS6.out k hk) hf7.size) hb7 HT1.out B c' lb' b HLB.out ⟨HB.out.1.nofr (HF1.out.trans h7.fr), HB.out.2⟩ HCB.out (by have := HLB3.out; omega) fun hpos k hk => .inl ((HB.out.1.nofr HF1.out).lt (by rw [cb_length]; exact hpos) hk)
  have HSB := Lib.hid hsb
  have HCR := Lib.hid (state_crash (lb 1 1) a b (pk_lb 1 1 (by omega)) HLA3.out HLB3.out (q : Int) (by omega) [9, 9, 9, 9])
  clear h7 hf7 hb7 hsb HB6 HS6
  go_wp2_with fail
  refine HSB.out.mono ?_
  clear HSB
  rintro e w8 ⟨rfl, h8, hf8⟩
  generalize psave ⟨262144, (q : Int), false, [lf (lb 1 1), sf a]⟩ nS b = r at *
  have hg8 : Fr NoBlk w8 (w8.alloc (.cells #[.int .i64 9, .int .i64 9, .int .i64 9, .int .i64 9] 3)) := (Fr.refl _ _).alloc _
  have HC := Lib.hid (crashS (h8.nofr hg8) (some ⟨w8.heap.size, 0, none⟩) 4 4 [9, 9, 9, 9] rfl (Rd.of_cells (Bk.new w8 3 #[.int .i64 9, .int .i64 9, .int .i64 9, .int .i64 9])) (by unfold maxLen; simp))
  clear h8 hf8 hg8
  go_wp2_with fail
  refine HC.out.mono ?_
  clear HC
  rintro e w9 ⟨gx, rfl, hx, _⟩
  have h9 := hx NoS fun _ h => h.elim
  obtain ⟨C, L, hcr, hL, htot, hCl, hor⟩ := HCR.out
  rw [hcr] at h9
  have hL1 : (sf C :: L) = [] ∨ (∃ s, sf C :: L = [s] ∧ s.name = nS) ∨ ∃ s t, sf C :: L = [s, t] ∧ s.name = nS ∧ t.name = nS ++ [126] := by
    rcases hL with rfl | ⟨t, rfl, ht⟩
    · exact .inr (.inl ⟨_, rfl, rfl⟩)
    · exact .inr (.inr ⟨_, _, rfl, rfl, ht⟩)
  have hg9 : Fr NoBlk w9 (w9.alloc (.cells #[.int .i64 0] 3)) := (Fr.refl _ _).alloc _
  have hop := dopen_any w1 _ gx _ ⟨262144, -1, false, lf (lb 2 1) :: sf C :: L⟩ (fun k => k = w9.heap.size) (h9.prot hg9 (fun _ _ h => h.elim) fun k hk => .inr (by omega)) (fun k hk => by rw [World.size_alloc]; omega) HT1.out w9.heap.size _ (Bk.new w9 3 #[.int .i64 0]) rfl 1 true 0 (.inl (life_load 262144 1 1 (by omega) _)) 1 rfl (by omega) (life_again 262144 2 1 1 1 (by omega) _ hL1 htot (by omega)) ⟨rfl, rfl⟩ (no_log 262144 _ _ hL1)
  have HOP := Lib.hid hop
  have HLD := Lib.hid (state_load 262144 (lb 2 1) C hCl L)
  have HOR := Lib.hid hor
  clear hx h9 hcr hL htot hor hL1 hg9 hop HCR
  go_wp2_with fail
  refine HOP.out.mono ?_
  clear HOP
  rintro e w10 ⟨gk2, mb2, rfl, h10, hb10, _, _⟩
  have hld := kload_any w1 w10 gx gk2 1 mb2 true _ _ h10 hb10 HT1.out
  rw [HLD.out] at hld
  have HK := Lib.hid hld
  have HF10 := Lib.hid (HF1.out.trans h10.fr)
  clear h10 hb10 hld HLD
  go_wp2_with fail
  refine HK.out.mono ?_
  clear HK
  rintro e w11 ⟨v11, rfl, hn11⟩
  obtain ⟨A2, c2, rfl, _, _⟩ := own_form hn11.own
  have HF11 := Lib.hid (HF10.out.trans hn11.fr)
  have s1 := strBs w11 A2 C.length c2 C rfl (Rd.of_own hn11.own)
  have s2 := strBs w11 A la c a HLA.out (HA.out.1.nofr HF11.out)
  have s3 := strBs w11 B lb' c' b HLB.out (HB.out.1.nofr HF11.out)
  clear hn11
  rcases HOR.out with ⟨hr, rfl⟩ | ⟨hr, rfl⟩
  · rw [hr]
    clear hr HOR
    dsimp only at s1 ⊢
    generalize bstr a = x3 at *
    generalize bstr C = x4 at *
    generalize C.length = nc at *
    go_wp2_with fail
    all_goals
      go_ret
      exact ⟨by simp, HF11.out⟩
  · rw [hr]
    clear hr HOR
    dsimp only at s1 ⊢
    generalize bstr b = x3 at *
    generalize bstr C = x4 at *
    generalize C.length = nc at *
    go_wp2_with fail
    all_goals
      go_ret
      exact ⟨by simp, HF11.out⟩

theorem paramsOk : ∀ t ∈ Tryz.f5.params.toList, Tryz.prog.readableRec t = true ∧ t < Tryz.prog.types.size := fun t ht => by
  have h := List.all_eq_true.1 (show (Tryz.f5.params.toList.all fun t => Tryz.prog.readableRec t && decide (t < Tryz.prog.types.size)) = true by kernel_rfl) t ht
  simpa using h
theorem paramsPlain : ∀ (j : Nat) t, Tryz.f5.params[j]? = some t → Tryz.prog.wantsStandIn t = false := fun j t ht => by
  have h := List.all_eq_true.1 (show (Tryz.f5.params.toList.all fun t => !Tryz.prog.wantsStandIn t) = true by kernel_rfl) t (by simpa using Array.mem_of_getElem? ht)
  simpa using h

set_option maxRecDepth 100000 in
theorem contract (H : Type) (enc : TypeId × Value → H) (W : World) (args : Array Value) (ds gs : List (DataW H)) (before : List MemPlace)
    (base : Nat) (hval : ∀ (j : Nat) t v, Tryz.f5.params[j]? = some t → args[j]? = some v → Value.okWide Tryz.prog W .any base t v)
    (hW : DataW.Whole enc Tryz.prog Tryz.f5.params.toList Rows.durableStatesSpec.vars false W args.toList ds gs before) (hL : laidMetH Tryz.prog Rows.durableStatesRow.laid W) :
    Calls Tryz.prog 5 args W fun e W' => ∃ v, e = .returned v ∧ Rows.durableStatesSpec.post enc Tryz.prog Tryz.f5 false true false false W args v W' := by
  have hW' := hW
  obtain ⟨p, q, hA, hV, rfl, _, _⟩ := hW
  rw [Tryz.params5] at hA hval
  obtain ⟨v0, vs0, d0, ds0, p0, q0, hargs, rfl, rfl, h0, r0⟩ := trodAll_cons hA
  obtain ⟨v1, vs1, d1, ds1, p1, q1, rfl, rfl, rfl, h1, r1⟩ := trodAll_cons r0
  obtain ⟨v2, vs2, d2, ds2, p2, q2, rfl, rfl, rfl, h2, r2⟩ := trodAll_cons r1
  obtain ⟨rfl, rfl, rfl⟩ := trodAll_nil r2
  obtain rfl : args = #[v0, v1, v2] := by cases args; simp_all
  obtain ⟨rfl, rfl⟩ := trodVars_none hV
  obtain ⟨A, c, a, rfl, hr, hA1, hac, hc⟩ := open_bytes (hval 0 _ v0 rfl rfl) h0
  obtain ⟨B, c', b, rfl, hr', hA1', hac', hc'⟩ := open_bytes (hval 1 _ v1 rfl rfl) h1
  obtain ⟨z, rfl, rfl, rfl, wz⟩ := open_int Tryz.underlying3 (hval 2 _ v2 rfl rfl) h2
  have walk := walk W (table hL) A c a B c' b z ⟨hr, hA1⟩ hac hc ⟨hr', hA1'⟩ hac' hc'
  refine walk.mono fun e W' ⟨he, hf⟩ => ?_
  subst he
  exact ⟨_, rfl, law_post laidOut paramsOk rfl rfl Tryz.underlying4 hW' rfl rfl rfl hf⟩

theorem laid_met (os : Os) : laidMet Tryz.prog Rows.durableStatesRow.laid ((laidWorld os).forCall (fun _ _ => 0) ⟨#[], #[.slice none 0 0, .slice none 0 0, .int .i64 0], []⟩).memory :=
  laidMet_of_run' 20 (by kernel_rfl) (by kernel_rfl)
theorem reads (os : Os) {H : Type} (enc : TypeId × Value → H) : ∃ places, DataW.whole enc Tryz.prog ((laidWorld os).forCall (fun _ _ => 0) ⟨#[], #[.slice none 0 0, .slice none 0 0, .int .i64 0], []⟩).memory Tryz.f5.params.toList Rows.durableStatesSpec.vars false (#[.slice none 0 0, .slice none 0 0, .int .i64 0] : Array Value).toList 8 = some ([.nil, .nil, .lit (.int .i64 0)], [], places) :=
  ⟨[], by kernel_rfl⟩

set_option maxRecDepth 100000 in
theorem lifted (os : Os) (started : os.Started) (H : Type) (enc : TypeId × Value → H) (F : Stop.Interp) :
    ReturnsInHanded {} Tryz.checked os 5 .any ((OpenSpec.ofChange Rows.durableStatesSpec).preRow enc Tryz.prog Tryz.f5 Rows.durableStatesRow.domain false Rows.durableStatesRow.laid) (((OpenSpec.ofChange Rows.durableStatesSpec).at F).post enc Tryz.prog Tryz.f5 false true false false) := by
  obtain ⟨places, hx⟩ := reads os enc
  refine returnsInHanded_of_row (C := Tryz.checked) (s := OpenSpec.ofChange Rows.durableStatesSpec) own started (by kernel_rfl) Tryz.func5
    (witness_row_at (enc := enc) (C := Tryz.checked) false (laidWorld os) #[.slice none 0 0, .slice none 0 0, .int .i64 0] rfl (by kernel_rfl) (by kernel_rfl) (by kernel_rfl)
      (OpenSpec.preRow_of_cond 8 hx (by kernel_rfl) (fun k hk => by cases hk) (by kernel_rfl) (laid_met os))) ?_
  intro W base args ds gs before hval hW _ _ _ hL _ _
  exact contract H enc W args ds gs before base hval hW hL

theorem said : Rows.DurableStatesSaid :=
  OpenClaim.holds_of_cond 5 Tryz.f5 rfl rfl rfl rfl rfl rfl rfl ⟨rfl, rfl, rfl, rfl, rfl⟩ rfl rfl rfl rfl rfl (by kernel_rfl) Tryz.func5 (by kernel_rfl)
    (of_decide_eq_true (by kernel_rfl)) (by unfold Func.isWrapper; first | (rw [if_pos (by decide +kernel)]; kernel_rfl) | (rw [if_neg (by decide +kernel)]; exact ⟨rfl, rfl⟩))
    (fun os started H enc _ F => by rw [OpenClaim.pre_eq_preRow]; exact lifted os started H enc F)

theorem plain (f : FuncId) (fn : Func) (hf : Tryz.pinned.checked.prog.funcNamed "argosy/argosylaw22.DurableStates" = some f) (hfn : Tryz.pinned.checked.prog.funcs[f]? = some fn) :
    false = Tryz.pinned.checked.prog.looks [] ∧ ∀ (j : Nat) t, fn.params[j]? = some t → Tryz.pinned.checked.prog.wantsStandIn t = false := by
  obtain rfl : f = 5 := Option.some.inj ((show Tryz.prog.funcNamed "argosy/argosylaw22.DurableStates" = some 5 by kernel_rfl).symm.trans hf) |>.symm
  obtain rfl : fn = Tryz.f5 := (Option.some.inj (Tryz.func5.symm.trans hfn)).symm
  exact ⟨by kernel_rfl, paramsPlain⟩

theorem card : Rows.DurableStatesCardSaid :=
  Claim7.holds_tied_plain_at .later [] _ _ _ _ said (fun _ h => by cases h) (by kernel_rfl) (fun _ h => by cases h) durableStates_row_tie rfl ⟨rfl, rfl⟩ (by kernel_rfl) rfl plain (by kernel_rfl)
end Go.Proofs.YtafiokabnlmgpaaGreatDoor.durableStates
