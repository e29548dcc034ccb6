/- CodeOrder is true: unlike numbers have unlike bytes, and a greater number never has fewer of them. No condition but what the card ties. -/
import Derived.Test.YtmghlalddgklaaaDoorLaw
import Derived.Test.YtmghlalddgklaaaDoorNum
namespace Go.Proofs.YtmghlalddgklaaaDoor.codeOrder
open Go.ChangeShapes Go.WideShapes Go.ChangeAt Go.RowKit

set_option maxRecDepth 100000 in
set_option maxHeartbeats 400000 in
theorem walk (w : World) (ht : Tab w) (a b : Nat) (ha : a < 2 ^ 64) (hb : b < 2 ^ 64) : Calls Tryd.prog 9 #[.int .u64 a, .int .u64 b] w fun e w' => e = .returned (.bool true) ∧ Fr NoBlk w w' := by
  have HT := Lib.hid ht
  have HA := Lib.hid ha
  have HB := Lib.hid hb
  clear ht ha hb
  go_enter Tryd.func9, Tryd.ntmps9
  go_wp2_with fail
  refine (speaks_any w HT.out).mono ?_
  rintro e w1 ⟨rfl, hf⟩
  have HF := Lib.hid hf
  have HP : Hid (Pen ((w1.alloc (.cells #[.slice none 0 0] 28)).alloc (.cells #[.slice none 0 0] 28)) w1.heap.size w1.heap.size (.slice none 0 0) []) :=
    ⟨(Bk.new _ _ _).alloc _, World.ownsRow_nil _ _ _ _⟩
  have HQ : Hid (Pen ((w1.alloc (.cells #[.slice none 0 0] 28)).alloc (.cells #[.slice none 0 0] 28)) w1.heap.size (w1.heap.size + 1) (.slice none 0 0) []) :=
    ⟨by have := Bk.new (w1.alloc (.cells #[.slice none 0 0] 28)) 28 #[.slice none 0 0]; simpa using this, World.ownsRow_nil _ _ _ _⟩
  clear hf
  go_wp2_with fail
  refine (num_any _ w1.heap.size w1.heap.size a _ [] HP.out (by simp; omega) HA.out (by simp)).mono ?_
  rintro e w2 ⟨rfl, v2, hw2⟩
  rw [List.nil_append] at hw2
  have HW2 := Lib.hid hw2
  have HQ2 := Lib.hid (HQ.out.keep hw2.fr (by rintro (e | e); omega; cases e) (by intro k hk; cases hk))
  have hsz2 := hw2.fr.size
  clear hw2
  go_wp2_with fail
  refine (num_any _ w1.heap.size (w1.heap.size + 1) b _ [] HQ2.out (by simp at hsz2; omega) HB.out (by simp)).mono ?_
  rintro e w3 ⟨rfl, v3, hw3⟩
  rw [List.nil_append] at hw3
  have HW3 := Lib.hid hw3
  have HP3 := Lib.hid (HW2.out.pen.keep hw3.fr (by rintro (e | e); omega; cases e) (by
    rintro k hk (rfl | e)
    · rcases HW2.out.blk with h | ⟨q, h, hq⟩
      · rw [hk] at h; cases h
      · rw [hk] at h; injection h with h; simp at hq; omega
    · cases e))
  clear hw3
  go_wp2_with fail
  refine (data_any w3 w1.heap.size w1.heap.size v2 (num a) HP3.out (by have := num_len a HA.out; omega)).mono ?_
  rintro e w4 ⟨v4, rfl, hn4⟩
  obtain ⟨A4, c4, rfl, _, _⟩ := own_form hn4.own
  have HN4 := Lib.hid hn4
  have HQ4 := Lib.hid (HW3.out.pen.keep hn4.fr (fun h => h) (fun _ _ h => h))
  clear hn4
  go_wp2_with fail
  refine (data_any w4 w1.heap.size (w1.heap.size + 1) v3 (num b) HQ4.out (by have := num_len b HB.out; omega)).mono ?_
  rintro e w5 ⟨v5, rfl, hn5⟩
  obtain ⟨A5, c5, rfl, _, _⟩ := own_form hn5.own
  have e1 := strOf w5 A4 _ c4 (num a) rfl ((Rd.of_own HN4.out.own).nofr hn5.fr)
  have e2 := strOf w5 A5 _ c5 (num b) rfl (Rd.of_own hn5.own)
  have HF5 : Hid (Fr NoBlk w w5) := ((((HF.out.alloc _).alloc _).step HW2.out.fr (by
      rintro i hi (rfl | e)
      · have := HF.out.size; omega
      · cases e)).step HW3.out.fr (by
      rintro i hi (rfl | e)
      · have := HF.out.size; omega
      · cases e)).step HN4.out.fr (fun _ _ h => h) |>.step hn5.fr (fun _ _ h => h)
  clear hn5
  rcases Nat.lt_trichotomy a b with h | h | h
  · have f1 : ((a : Int) == (b : Int)) = false := beq_eq_false_iff_ne.2 (by omega)
    have f2 : (num a == num b) = false := beq_eq_false_iff_ne.2 (fun e => by have := num_inj a b e; omega)
    have f3 := num_mono a b (by omega)
    go_wp2
    all_goals
      go_ret
      exact ⟨rfl, HF5.out⟩
  · subst h
    go_wp2
    all_goals
      go_ret
      exact ⟨rfl, HF5.out⟩
  · have f1 : ((a : Int) == (b : Int)) = false := beq_eq_false_iff_ne.2 (by omega)
    have f2 : (num a == num b) = false := beq_eq_false_iff_ne.2 (fun e => by have := num_inj a b e; omega)
    have f3 := num_mono b a (by omega)
    go_wp2
    all_goals
      go_ret
      exact ⟨rfl, HF5.out⟩

theorem paramsOk : ∀ t ∈ Tryd.f9.params.toList, Tryd.prog.readableRec t = true ∧ t < Tryd.prog.types.size := fun t ht => by
  have h := List.all_eq_true.1 (show (Tryd.f9.params.toList.all fun t => Tryd.prog.readableRec t && decide (t < Tryd.prog.types.size)) = true by kernel_rfl) t ht
  simpa using h
theorem paramsPlain : ∀ (j : Nat) t, Tryd.f9.params[j]? = some t → Tryd.prog.wantsStandIn t = false := fun j t ht => by
  have h := List.all_eq_true.1 (show (Tryd.f9.params.toList.all fun t => !Tryd.prog.wantsStandIn t) = true by kernel_rfl) t (by simpa using Array.mem_of_getElem? ht)
  simpa using h

theorem contract (H : Type) (enc : TypeId × Value → H) (W : World) (args : Array Value) (ds gs : List (DataW H)) (before : List MemPlace)
    (base : Nat) (hval : ∀ (j : Nat) t v, Tryd.f9.params[j]? = some t → args[j]? = some v → Value.okWide Tryd.prog W .any base t v)
    (hW : DataW.Whole enc Tryd.prog Tryd.f9.params.toList Rows.codeOrderSpec.vars false W args.toList ds gs before) (hL : laidMetH Tryd.prog Rows.codeOrderRow.laid W) :
    Calls Tryd.prog 9 args W fun e W' => ∃ v, e = .returned v ∧ Rows.codeOrderSpec.post enc Tryd.prog Tryd.f9 false true false false W args v W' := by
  have hW' := hW
  obtain ⟨p, q, hA, hV, rfl, _, _⟩ := hW
  rw [Tryd.params9] at hA hval
  obtain ⟨v0, vs0, d0, ds0, p0, q0, hargs, rfl, rfl, h0, r0⟩ := trodAll_cons hA
  obtain ⟨v1, vs1, d1, ds1, p1, q1, rfl, rfl, rfl, h1, r1⟩ := trodAll_cons r0
  obtain ⟨rfl, rfl, rfl⟩ := trodAll_nil r1
  obtain rfl : args = #[v0, v1] := by cases args; simp_all
  obtain ⟨rfl, rfl⟩ := trodVars_none hV
  obtain ⟨a, rfl, rfl, rfl, wa⟩ := open_int Tryd.underlying29 (hval 0 _ v0 rfl rfl) h0
  obtain ⟨b, rfl, rfl, rfl, wb⟩ := open_int Tryd.underlying29 (hval 1 _ v1 rfl rfl) h1
  obtain ⟨a, rfl, ha⟩ := nat_u64 wa
  obtain ⟨b, rfl, hb⟩ := nat_u64 wb
  have walk := walk W (table hL) a b ha hb
  refine walk.mono fun e W' ⟨he, hf⟩ => ?_
  subst he
  exact ⟨_, rfl, law_post laidOut paramsOk rfl rfl Tryd.underlying4 hW' rfl rfl rfl hf⟩

theorem laid_met (os : Os) : laidMet Tryd.prog Rows.codeOrderRow.laid ((laidWorld os).forCall (fun _ _ => 0) ⟨#[], #[.int .u64 0, .int .u64 0], []⟩).memory :=
  laidMet_of_run' 20 (by kernel_rfl) (by kernel_rfl)
theorem reads (os : Os) {H : Type} (enc : TypeId × Value → H) : ∃ places, DataW.whole enc Tryd.prog ((laidWorld os).forCall (fun _ _ => 0) ⟨#[], #[.int .u64 0, .int .u64 0], []⟩).memory Tryd.f9.params.toList Rows.codeOrderSpec.vars false (#[.int .u64 0, .int .u64 0] : Array Value).toList 8 = some ([.lit (.int .u64 0), .lit (.int .u64 0)], [], places) :=
  ⟨[], by kernel_rfl⟩

set_option maxRecDepth 100000 in
theorem lifted (os : Os) (started : os.Started) (H : Type) (enc : TypeId × Value → H) (F : Stop.Interp) :
    ReturnsInHanded {} Tryd.checked os 9 .any ((OpenSpec.ofChange Rows.codeOrderSpec).preRow enc Tryd.prog Tryd.f9 Rows.codeOrderRow.domain false Rows.codeOrderRow.laid) (((OpenSpec.ofChange Rows.codeOrderSpec).at F).post enc Tryd.prog Tryd.f9 false true false false) := by
  obtain ⟨places, hx⟩ := reads os enc
  refine returnsInHanded_of_row (C := Tryd.checked) (s := OpenSpec.ofChange Rows.codeOrderSpec) own started (by kernel_rfl) Tryd.func9
    (witness_row_at (enc := enc) (C := Tryd.checked) false (laidWorld os) #[.int .u64 0, .int .u64 0] rfl (by kernel_rfl) (by kernel_rfl) (by kernel_rfl)
      (OpenSpec.preRow_of_cond 8 hx (by kernel_rfl) (fun k hk => by cases hk) (by kernel_rfl) (laid_met os))) ?_
  intro W base args ds gs before hval hW _ _ _ hL _ _
  exact contract H enc W args ds gs before base hval hW hL

theorem said : Rows.CodeOrderSaid :=
  OpenClaim.holds_of_cond 9 Tryd.f9 rfl rfl rfl rfl rfl rfl rfl ⟨rfl, rfl, rfl, rfl, rfl⟩ rfl rfl rfl rfl rfl (by kernel_rfl) Tryd.func9 (by kernel_rfl)
    (of_decide_eq_true (by kernel_rfl)) (by unfold Func.isWrapper; first | (rw [if_pos (by decide +kernel)]; kernel_rfl) | (rw [if_neg (by decide +kernel)]; exact ⟨rfl, rfl⟩))
    (fun os started H enc _ F => by rw [OpenClaim.pre_eq_preRow]; exact lifted os started H enc F)

theorem plain (f : FuncId) (fn : Func) (hf : Tryd.pinned.checked.prog.funcNamed "argosy/argosylaw01.CodeOrder" = some f) (hfn : Tryd.pinned.checked.prog.funcs[f]? = some fn) :
    false = Tryd.pinned.checked.prog.looks [] ∧ ∀ (j : Nat) t, fn.params[j]? = some t → Tryd.pinned.checked.prog.wantsStandIn t = false := by
  obtain rfl : f = 9 := Option.some.inj ((show Tryd.prog.funcNamed "argosy/argosylaw01.CodeOrder" = some 9 by kernel_rfl).symm.trans hf) |>.symm
  obtain rfl : fn = Tryd.f9 := (Option.some.inj (Tryd.func9.symm.trans hfn)).symm
  exact ⟨by kernel_rfl, paramsPlain⟩

theorem card : Rows.CodeOrderCardSaid :=
  Claim7.holds_tied_plain_at .later [] _ _ _ _ said (fun _ h => by cases h) (by kernel_rfl) (fun _ h => by cases h) codeOrder_row_tie rfl ⟨rfl, rfl⟩ (by kernel_rfl) rfl plain (by kernel_rfl)
end Go.Proofs.YtmghlalddgklaaaDoor.codeOrder
