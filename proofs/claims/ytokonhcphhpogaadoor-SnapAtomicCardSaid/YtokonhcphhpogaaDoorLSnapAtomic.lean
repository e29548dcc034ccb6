/- SnapAtomic is true: whenever the power goes within a Save, what is loaded behind it is the elder body, or the new one; behind an OK the new one. No condition but what the card ties. -/
import Derived.Test.YtokonhcphhpogaaDoorLaw
import Derived.Test.YtokonhcphhpogaaDoorOpen
import Derived.Test.YtokonhcphhpogaaDoorOpenA
import Derived.Test.YtokonhcphhpogaaDoorLowB
import Derived.Test.YtokonhcphhpogaaDoorAtomicP
namespace Go.Proofs.YtokonhcphhpogaaDoor.snapAtomic
open Go.ChangeShapes Go.WideShapes Go.ChangeAt Go.RowKit

def S7 (v : Value) : Nat → Prop := fun k => v.ownBlock = some k
set_option maxRecDepth 100000 in
set_option maxHeartbeats 8000000 in
theorem walk (w : World) (ht : Tab w) (x y : Prt) (calls : Int) (K : Option Addr) (kc : Nat) (ks : List Int) (hx : Part w x) (hxl : x.2.2.length ≤ x.2.1) (hxm : x.2.1 ≤ maxLen) (hy : Part w y) (hyl : y.2.2.length ≤ y.2.1) (hym : y.2.1 ≤ maxLen) (hk : Rd w K (ics ks)) (hkl : ks.length ≤ maxLen) :
    Calls Tryd.prog 5 #[.agg #[sl x, sl y], .int .i64 calls, .slice K ks.length kc] w fun e w' => e = .returned (.bool true) ∧ Fr NoBlk w w' := by
  have HT := Lib.hid ht
  have HF0 : Hid (Fr NoBlk w (w.alloc (.cells #[sl x, sl y] 56))) := (Fr.refl _ _).alloc _
  have HB0 : Hid (Bk (w.alloc (.cells #[sl x, sl y] 56)) w.heap.size 56 #[sl x, sl y]) := Bk.new _ _ _
  obtain ⟨A, c, a⟩ := x
  obtain ⟨B, c', b⟩ := y
  unfold sl at HF0 HB0 ⊢
  dsimp only at hxl hxm hyl hym HF0 HB0 ⊢
  have HA := Lib.hid hx
  have HB := Lib.hid hy
  have HCA := Lib.hid hxl
  have HCB := Lib.hid hyl
  have HK := Lib.hid hk
  have HKL := Lib.hid hkl
  have ha : a.length ≤ 9223372036854775807 := by unfold maxLen at hxm; omega
  have hb : b.length ≤ 9223372036854775807 := by unfold maxLen at hym; omega
  unfold maxLen at hkl
  obtain ⟨q, hq, hq7⟩ := low_bits calls 7 (by omega)
  rw [show ((7 : Nat) : Int) = 7 from rfl] at hq
  clear ht hx hy hxl hyl hxm hym hk
  obtain ⟨la, hla⟩ : ∃ la, la = a.length := ⟨_, rfl⟩
  obtain ⟨lb, hlb⟩ : ∃ lb, lb = b.length := ⟨_, rfl⟩
  have HLA := Lib.hid hla
  have HLB := Lib.hid hlb
  rw [← hla] at ha HF0 HB0 ⊢
  rw [← hlb] at hb HF0 HB0 ⊢
  clear hla hlb
  obtain ⟨nk, hnk⟩ : ∃ nk, nk = ks.length := ⟨_, rfl⟩
  have HNK := Lib.hid hnk
  rw [← hnk] at hkl ⊢
  clear hnk
  go_enter Tryd.func5, Tryd.ntmps5
  go_wp2_with fail
  refine (speaks_any _ (HT.out.fr HF0.out fun h => h)).mono ?_
  rintro e w1 ⟨rfl, hf1⟩
  have HF1 := Lib.hid (HF0.out.trans hf1)
  have HB1 := Lib.hid (HB0.out.fr hf1 fun h => h)
  have k0 : w1.cell? ⟨w.heap.size, 0, none⟩ = some (.slice A la c) := HB1.out.cell 0
  have k1 : w1.cell? ⟨w.heap.size, 1, none⟩ = some (.slice B lb c') := HB1.out.cell 1
  clear hf1 HF0 HB0
  by_cases hb1 : 5000 < la
  · go_wp2_with fail
    go_ret
    exact ⟨rfl, HF1.out⟩
  by_cases hb2 : 5000 < lb
  · go_wp2_with fail
    go_ret
    exact ⟨rfl, HF1.out⟩
  by_cases hb3 : 100 < nk
  · go_wp2_with fail
    go_ret
    exact ⟨rfl, HF1.out⟩
  have HLA5 : Hid (a.length ≤ 5000) := by show _ ≤ _; have := HLA.out; omega
  have HLB5 : Hid (b.length ≤ 5000) := by show _ ≤ _; have := HLB.out; omega
  have HT1 := Lib.hid (HT.out.fr HF1.out fun h => h)
  have HSA : Hid (∀ W p gd n S, AtS w1 W gd p S → (∀ k, S k → k < W.heap.size) → n.length ≤ maxLen → Calls Tryd.prog 20 #[.pointer (some ⟨gd, 0, none⟩), .string (bstr n), .slice A la c] W (CallPost w1 W gd (psave p n a) S)) := fun W p gd n S h hS hn => by
    have h2 := save_any w1 W gd p S h hS HT1.out n hn A c a ⟨HA.out.1.nofr (HF1.out.trans h.fr), HA.out.2⟩ HCA.out (by have := HLA5.out; omega) fun hpos k hk => .inl ((HA.out.1.nofr HF1.out).lt (by rw [cb_length]; exact hpos) hk)
    rw [← HLA.out] at h2
    exact h2
  have HSB : Hid (∀ W p gd n S, AtS w1 W gd p S → (∀ k, S k → k < W.heap.size) → n.length ≤ maxLen → Calls Tryd.prog 20 #[.pointer (some ⟨gd, 0, none⟩), .string (bstr n), .slice B lb c'] W (CallPost w1 W gd (psave p n b) S)) := fun W p gd n S h hS hn => by
    have h2 := save_any w1 W gd p S h hS HT1.out n hn B c' b ⟨HB.out.1.nofr (HF1.out.trans h.fr), HB.out.2⟩ HCB.out (by have := HLB5.out; omega) fun hpos k hk => .inl ((HB.out.1.nofr HF1.out).lt (by rw [cb_length]; exact hpos) hk)
    rw [← HLB.out] at h2
    exact h2
  have HKK : Hid (∀ W, Fr NoBlk w1 W → W.cell? ⟨w.heap.size, 0, none⟩ = some (.slice A la c) ∧ W.cell? ⟨w.heap.size, 1, none⟩ = some (.slice B lb c')) := fun W hW => ⟨(HB1.out.fr hW fun h => h).cell 0, (HB1.out.fr hW fun h => h).cell 1⟩
  go_wp2_with fail
  refine (new_at w1 w1 (Fr.refl _ _) 65536 (by omega) (by omega)).mono ?_
  rintro e w2 ⟨gd, rfl, h2, hf2⟩
  have h2' : AtS w1 w2 gd (pNew 65536) NoS := h2.prot (Fr.refl NoBlk _) fun _ h => h.elim
  have hc := HSA.out w2 (pNew 65536) gd [99] NoS h2' (fun _ h => h.elim) (by unfold maxLen; simp)
  rw [at1 a HLA5.out] at hc
  have HC := Lib.hid hc
  obtain ⟨k02, k12⟩ := HKK.out w2 h2'.fr
  clear h2 h2' hf2 hc k0 k1
  go_wp2_with fail
  refine HC.out.mono ?_
  clear HC k02 k12
  rintro e w3 ⟨rfl, h, _⟩
  have hc := limitS h (q : Int) (by omega)
  have HC := Lib.hid hc
  clear h hc
  go_wp2_with fail
  refine HC.out.mono ?_
  clear HC
  rintro e w4 ⟨rfl, h, _⟩
  have H4 : Hid (AtS w1 w4 gd ⟨65536, (q : Int), false, [fc (pk a)]⟩ NoS) := h
  have HC := Lib.hid (HSB.out w4 _ gd [99] NoS H4.out (fun _ h => h.elim) (by unfold maxLen; simp))
  have HAT := Lib.hid (atomic a b HLA5.out HLB5.out (q : Int) (by omega) ks)
  obtain ⟨k04, k14⟩ := HKK.out w4 H4.out.fr
  clear h H4
  go_wp2_with fail
  refine HC.out.mono ?_
  clear HC k04 k14
  rintro e w5 ⟨rfl, h, _⟩
  generalize psave ⟨65536, (q : Int), false, [fc (pk a)]⟩ [99] b = r at *
  have HC := Lib.hid (crashS h K ks.length kc ks rfl (HK.out.nofr (HF1.out.trans h.fr)) HKL.out)
  rw [← HNK.out] at HC
  clear h
  go_wp2_with fail
  refine HC.out.mono ?_
  clear HC
  rintro e w6 ⟨gx, rfl, hx6, _⟩
  have H6 := Lib.hid (hx6 NoS fun _ h => h.elim)
  clear hx6
  have hl := load_any w1 w6 gx _ NoS H6.out HT1.out [99] (by unfold maxLen; simp)
  rcases HAT.out with ⟨⟨hr, hld⟩ | ⟨hr, hld⟩, hag⟩
  · have HAGN := Lib.hid hag
    rw [hld] at hl
    have HC := Lib.hid hl
    rw [hr]
    clear hl hld hr hag HAT
    go_wp2_with fail
    refine HC.out.mono ?_
    clear HC
    rintro e w7 ⟨v7, rfl, hn7⟩
    obtain ⟨A7, c7, rfl, _, _⟩ := own_form hn7.own
    have HR7 := Lib.hid (Rd.of_own hn7.own)
    have H7 : Hid (AtS w1 w7 gx (pCrash r.1 ks) (S7 (.slice A7 b.length c7))) := H6.out.prot hn7.fr (fun _ _ h => h.elim) fun k hk => .inr (hn7.own.lt k hk).1
    have HS7 : Hid (∀ k, S7 (.slice A7 b.length c7) k → k < w7.heap.size) := fun k hk => (hn7.own.lt k hk).2
    have hc := HSA.out w7 _ gx [99] _ H7.out HS7.out (by unfold maxLen; simp)
    rw [HAGN.out] at hc
    have HC := Lib.hid hc
    have s1 := strBs w7 A7 lb c7 b HLB.out HR7.out
    have s2 := strBs w7 B lb c' b HLB.out (HB.out.1.nofr (HF1.out.trans H7.out.fr))
    obtain ⟨k07, k17⟩ := HKK.out w7 H7.out.fr
    clear hn7 hc H6
    dsimp only
    rw [← HLB.out]
    go_wp2_with fail
    refine HC.out.mono ?_
    clear HC s1 s2 k07 k17
    rintro e w8 ⟨rfl, h, hf8⟩
    have H8 := Lib.hid h
    have HR8 := Lib.hid (HR7.out.fr hf8 fun k hk hl => hl.1 (by obtain ⟨b0, rfl, rfl⟩ := hk; rfl))
    have hl := load_any w1 w8 gx _ _ H8.out HT1.out [99] (by unfold maxLen; simp)
    rw [show pload (D2 [fc (pk a)]) [99] = (a, 0) from at_load a HLA5.out []] at hl
    have HC := Lib.hid hl
    clear h hf8 hl H7
    go_wp2_with fail
    refine HC.out.mono ?_
    clear HC
    rintro e w9 ⟨v9, rfl, hn9⟩
    obtain ⟨A9, c9, rfl, _, _⟩ := own_form hn9.own
    have H9 := Lib.hid (H8.out.nofr hn9.fr)
    have HFZ := Lib.hid (HF1.out.trans H9.out.fr)
    have s1 := strBs w9 A7 lb c7 b HLB.out (HR8.out.nofr hn9.fr)
    have s2 := strBs w9 A la c a HLA.out (HA.out.1.nofr HFZ.out)
    have s3 := strBs w9 B lb c' b HLB.out (HB.out.1.nofr HFZ.out)
    have s4 := strBs w9 A9 la c9 a HLA.out (Rd.of_own hn9.own)
    obtain ⟨k09, k19⟩ := HKK.out w9 H9.out.fr
    clear hn9 H8
    dsimp only
    rw [← HLA.out]
    generalize bstr a = x3 at *
    generalize bstr b = x4 at *
    go_wp2_with fail
    all_goals
      go_ret
      exact ⟨by simp, HFZ.out⟩
  · have HAGN := Lib.hid hag
    rw [hld] at hl
    have HC := Lib.hid hl
    rw [hr]
    clear hl hld hr hag HAT
    go_wp2_with fail
    refine HC.out.mono ?_
    clear HC
    rintro e w7 ⟨v7, rfl, hn7⟩
    obtain ⟨A7, c7, rfl, _, _⟩ := own_form hn7.own
    have HR7 := Lib.hid (Rd.of_own hn7.own)
    have H7 : Hid (AtS w1 w7 gx (pCrash r.1 ks) (S7 (.slice A7 a.length c7))) := H6.out.prot hn7.fr (fun _ _ h => h.elim) fun k hk => .inr (hn7.own.lt k hk).1
    have HS7 : Hid (∀ k, S7 (.slice A7 a.length c7) k → k < w7.heap.size) := fun k hk => (hn7.own.lt k hk).2
    have hc := HSA.out w7 _ gx [99] _ H7.out HS7.out (by unfold maxLen; simp)
    rw [HAGN.out] at hc
    have HC := Lib.hid hc
    have s1 := strBs w7 A7 la c7 a HLA.out HR7.out
    have s2 := strBs w7 B lb c' b HLB.out (HB.out.1.nofr (HF1.out.trans H7.out.fr))
    obtain ⟨k07, k17⟩ := HKK.out w7 H7.out.fr
    clear hn7 hc H6
    dsimp only
    rw [← HLA.out]
    go_wp2_with fail
    refine HC.out.mono ?_
    clear HC s1 s2 k07 k17
    rintro e w8 ⟨rfl, h, hf8⟩
    have H8 := Lib.hid h
    have HR8 := Lib.hid (HR7.out.fr hf8 fun k hk hl => hl.1 (by obtain ⟨b0, rfl, rfl⟩ := hk; rfl))
    have hl := load_any w1 w8 gx _ _ H8.out HT1.out [99] (by unfold maxLen; simp)
    rw [show pload (D2 [fc (pk a)]) [99] = (a, 0) from at_load a HLA5.out []] at hl
    have HC := Lib.hid hl
    clear h hf8 hl H7
    go_wp2_with fail
    refine HC.out.mono ?_
    clear HC
    rintro e w9 ⟨v9, rfl, hn9⟩
    obtain ⟨A9, c9, rfl, _, _⟩ := own_form hn9.own
    have H9 := Lib.hid (H8.out.nofr hn9.fr)
    have HFZ := Lib.hid (HF1.out.trans H9.out.fr)
    have s1 := strBs w9 A7 la c7 a HLA.out (HR8.out.nofr hn9.fr)
    have s2 := strBs w9 A la c a HLA.out (HA.out.1.nofr HFZ.out)
    have s3 := strBs w9 B lb c' b HLB.out (HB.out.1.nofr HFZ.out)
    have s4 := strBs w9 A9 la c9 a HLA.out (Rd.of_own hn9.own)
    obtain ⟨k09, k19⟩ := HKK.out w9 H9.out.fr
    clear hn9 H8
    dsimp only
    rw [← HLA.out]
    generalize bstr a = x3 at *
    generalize bstr b = x4 at *
    go_wp2_with fail
    all_goals
      go_ret
      exact ⟨by simp, HFZ.out⟩

theorem paramsOk : ∀ t ∈ Tryd.f5.params.toList, Tryd.prog.readableRec t = true ∧ t < Tryd.prog.types.size := fun t ht => by
  have h := List.all_eq_true.1 (show (Tryd.f5.params.toList.all fun t => Tryd.prog.readableRec t && decide (t < Tryd.prog.types.size)) = true by kernel_rfl) t ht
  simpa using h
theorem paramsPlain : ∀ (j : Nat) t, Tryd.f5.params[j]? = some t → Tryd.prog.wantsStandIn t = false := fun j t ht => by
  have h := List.all_eq_true.1 (show (Tryd.f5.params.toList.all fun t => !Tryd.prog.wantsStandIn t) = true by kernel_rfl) t (by simpa using Array.mem_of_getElem? ht)
  simpa using h

set_option maxRecDepth 100000 in
theorem contract (H : Type) (enc : TypeId × Value → H) (W : World) (args : Array Value) (ds gs : List (DataW H)) (before : List MemPlace)
    (base : Nat) (hval : ∀ (j : Nat) t v, Tryd.f5.params[j]? = some t → args[j]? = some v → Value.okWide Tryd.prog W .any base t v)
    (hW : DataW.Whole enc Tryd.prog Tryd.f5.params.toList Rows.snapAtomicSpec.vars false W args.toList ds gs before) (hL : laidMetH Tryd.prog Rows.snapAtomicRow.laid W) :
    Calls Tryd.prog 5 args W fun e W' => ∃ v, e = .returned v ∧ Rows.snapAtomicSpec.post enc Tryd.prog Tryd.f5 false true false false W args v W' := by
  have hW' := hW
  obtain ⟨p, q, hA, hV, rfl, _, _⟩ := hW
  rw [Tryd.params5] at hA hval
  obtain ⟨v0, vs0, d0, ds0, p0, q0, hargs, rfl, rfl, h0, r0⟩ := trodAll_cons hA
  obtain ⟨v1, vs1, d1, ds1, p1, q1, rfl, rfl, rfl, h1, r1⟩ := trodAll_cons r0
  obtain ⟨v2, vs2, d2, ds2, p2, q2, rfl, rfl, rfl, h2, r2⟩ := trodAll_cons r1
  obtain ⟨rfl, rfl, rfl⟩ := trodAll_nil r2
  obtain rfl : args = #[v0, v1, v2] := by cases args; simp_all
  obtain ⟨rfl, rfl⟩ := trodVars_none hV
  obtain ⟨x, y, rfl, hx, hy⟩ := open_two (hval 0 _ v0 rfl rfl) h0
  obtain ⟨n, rfl, rfl, rfl, wn⟩ := open_int Tryd.underlying3 (hval 1 _ v1 rfl rfl) h1
  obtain ⟨K, kc, ks, rfl, hk, _, hkc, hkm⟩ := open_ints1 (hval 2 _ v2 rfl rfl) h2
  have walk := walk W (table hL) x y n K kc ks hx.1 hx.2.1 hx.2.2 hy.1 hy.2.1 hy.2.2 hk (Nat.le_trans hkc hkm)
  refine walk.mono fun e W' ⟨he, hf⟩ => ?_
  subst he
  exact ⟨_, rfl, law_post laidOut paramsOk rfl rfl Tryd.underlying4 hW' rfl rfl rfl hf⟩

theorem laid_met (os : Os) : laidMet Tryd.prog Rows.snapAtomicRow.laid ((laidWorld os).forCall (fun _ _ => 0) ⟨#[], #[.agg #[.slice none 0 0, .slice none 0 0], .int .i64 0, .slice none 0 0], []⟩).memory :=
  laidMet_of_run' 20 (by kernel_rfl) (by kernel_rfl)
theorem reads (os : Os) {H : Type} (enc : TypeId × Value → H) : ∃ places, DataW.whole enc Tryd.prog ((laidWorld os).forCall (fun _ _ => 0) ⟨#[], #[.agg #[.slice none 0 0, .slice none 0 0], .int .i64 0, .slice none 0 0], []⟩).memory Tryd.f5.params.toList Rows.snapAtomicSpec.vars false (#[.agg #[.slice none 0 0, .slice none 0 0], .int .i64 0, .slice none 0 0] : Array Value).toList 8 = some ([.agg [.nil, .nil], .lit (.int .i64 0), .nil], [], places) :=
  ⟨[], by kernel_rfl⟩

set_option maxRecDepth 100000 in
theorem lifted (os : Os) (started : os.Started) (H : Type) (enc : TypeId × Value → H) (F : Stop.Interp) :
    ReturnsInHanded {} Tryd.checked os 5 .any ((OpenSpec.ofChange Rows.snapAtomicSpec).preRow enc Tryd.prog Tryd.f5 Rows.snapAtomicRow.domain false Rows.snapAtomicRow.laid) (((OpenSpec.ofChange Rows.snapAtomicSpec).at F).post enc Tryd.prog Tryd.f5 false true false false) := by
  obtain ⟨places, hx⟩ := reads os enc
  refine returnsInHanded_of_row (C := Tryd.checked) (s := OpenSpec.ofChange Rows.snapAtomicSpec) own started (by kernel_rfl) Tryd.func5
    (witness_row_at (enc := enc) (C := Tryd.checked) false (laidWorld os) #[.agg #[.slice none 0 0, .slice none 0 0], .int .i64 0, .slice none 0 0] rfl (by kernel_rfl) (by kernel_rfl) (by kernel_rfl)
      (OpenSpec.preRow_of_cond 8 hx (by kernel_rfl) (fun k hk => by cases hk) (by kernel_rfl) (laid_met os))) ?_
  intro W base args ds gs before hval hW _ _ _ hL _ _
  exact contract H enc W args ds gs before base hval hW hL

theorem said : Rows.SnapAtomicSaid :=
  OpenClaim.holds_of_cond 5 Tryd.f5 rfl rfl rfl rfl rfl rfl rfl ⟨rfl, rfl, rfl, rfl, rfl⟩ rfl rfl rfl rfl rfl (by kernel_rfl) Tryd.func5 (by kernel_rfl)
    (of_decide_eq_true (by kernel_rfl)) (by unfold Func.isWrapper; first | (rw [if_pos (by decide +kernel)]; kernel_rfl) | (rw [if_neg (by decide +kernel)]; exact ⟨rfl, rfl⟩))
    (fun os started H enc _ F => by rw [OpenClaim.pre_eq_preRow]; exact lifted os started H enc F)

theorem plain (f : FuncId) (fn : Func) (hf : Tryd.pinned.checked.prog.funcNamed "argosy/argosylaw08.SnapAtomic" = some f) (hfn : Tryd.pinned.checked.prog.funcs[f]? = some fn) :
    false = Tryd.pinned.checked.prog.looks [] ∧ ∀ (j : Nat) t, fn.params[j]? = some t → Tryd.pinned.checked.prog.wantsStandIn t = false := by
  obtain rfl : f = 5 := Option.some.inj ((show Tryd.prog.funcNamed "argosy/argosylaw08.SnapAtomic" = some 5 by kernel_rfl).symm.trans hf) |>.symm
  obtain rfl : fn = Tryd.f5 := (Option.some.inj (Tryd.func5.symm.trans hfn)).symm
  exact ⟨by kernel_rfl, paramsPlain⟩

theorem card : Rows.SnapAtomicCardSaid :=
  Claim7.holds_tied_plain_at .later [] _ _ _ _ said (fun _ h => by cases h) (by kernel_rfl) (fun _ h => by cases h) snapAtomic_row_tie rfl ⟨rfl, rfl⟩ (by kernel_rfl) rfl plain (by kernel_rfl)
end Go.Proofs.YtokonhcphhpogaaDoor.snapAtomic
