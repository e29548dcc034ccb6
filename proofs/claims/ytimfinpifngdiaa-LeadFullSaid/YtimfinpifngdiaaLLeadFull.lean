/- LeadFull is true: a leader goes from place to place, and at none beyond the last one is anything under way. No condition. -/
import Derived.Test.YtimfinpifngdiaaSpeaks12
import Derived.Test.YtimfinpifngdiaaLeWI
import Derived.IntWalk
namespace Go.Proofs.Ytimfinpifngdiaa.leadFull
open Go.ChangeShapes Go.WideShapes Go.ChangeAt Go.RowKit Go.Maps

theorem low_bits (k : Int) (m : Nat) (hm : m ≤ 65535) : ∃ q : Nat, bits .and .i64 k (m : Int) = (q : Int) ∧ q ≤ m := by
  have e : (BitVec.ofInt 64 (m : Int)).toNat = m := by rw [BitVec.ofInt_natCast, BitVec.toNat_ofNat]; omega
  have hq : (BitVec.ofInt 64 k &&& BitVec.ofInt 64 (m : Int)).toNat ≤ m := by
    rw [BitVec.toNat_and]
    have := Nat.and_le_right (n := (BitVec.ofInt 64 k).toNat) (m := (BitVec.ofInt 64 (m : Int)).toNat)
    omega
  refine ⟨(BitVec.ofInt 64 k &&& BitVec.ofInt 64 (m : Int)).toNat, ?_, hq⟩
  show IntKind.i64.wrap (((BitVec.ofInt 64 k &&& BitVec.ofInt 64 (m : Int)).toNat : Nat) : Int) = _
  generalize (BitVec.ofInt 64 k &&& BitVec.ofInt 64 (m : Int)).toNat = q at *
  exact IntWalk.i64_in _ (by omega)
/-- a leader of one voter that leads, with nothing under way; with v under way. -/
def fu (s : Nat) : LdrI := ⟨1, s, true, fun _ => false, 0, fun _ => false, 0, fun _ => none, 0⟩
def fv (s : Nat) (v : Int) : LdrI := ⟨1, s, true, fun _ => false, 0, fun _ => false, 0, updK (fun _ => none) (s : Int) (some (0, 0, v)), 1⟩
theorem f0 (s : Nat) (v : Int) : offBI (newI 1 s) = false ∧ offI (newI 1 s) v = newI 1 s := ⟨rfl, rfl⟩
theorem f1 (s : Nat) : promI (newI 1 s) 0 [] = fu s := rfl
theorem f2 (s : Nat) (h : s < 64) (v : Int) : offBI (fu s) = true ∧ offI (fu s) v = fv s v := by
  have e : offBI (fu s) = true := by
    show ((valOI (fu s)).isNone && true && decide (s ≠ 64)) = true
    rw [decide_eq_true (by omega)]
    rfl
  refine ⟨e, ?_⟩
  unfold offI
  rw [if_pos e]
  rfl
theorem val_fv (s : Nat) (v : Int) : valOI (fv s v) = some v := by
  show (updK (fun _ => none) (s : Int) (some ((0 : Int), (0 : Nat), v)) (s : Int)).map (·.2.2) = some v
  rw [updK_same]
  rfl
theorem f3 (s : Nat) (v u : Int) : offBI (fv s v) = false ∧ offI (fv s v) u = fv s v := by
  have e : offBI (fv s v) = false := by
    unfold offBI
    rw [val_fv]
    rfl
  refine ⟨e, ?_⟩
  unfold offI
  rw [if_neg (by rw [e]; decide)]
theorem f4 (s : Nat) (v : Int) : takenI (fv s v) 0 s = (fu (s + 1), some v) := by
  unfold takenI
  rw [val_fv]
  refine (if_neg (by intro hc; rcases hc with hc | hc; exact hc rfl; cases hc)).trans ((if_pos (by show 1 < 2 * (0 + 1); decide)).trans ?_)
  congr 1
  show (⟨1, s + 1, true, fun _ => false, 0, fun _ => false, 0, updK (updK (fun _ => none) (s : Int) (some (0, 0, v))) (s : Int) none, 0⟩ : LdrI) = fu (s + 1)
  unfold fu
  congr 1
  funext y
  unfold updK
  split <;> rfl
theorem f5 (n : Int) : valOI (fu 64) = none ∧ takenI (fu 64) 0 n = (fu 64, none) ∧ offBI (fu 64) = false := ⟨rfl, rfl, rfl⟩

set_option maxRecDepth 100000 in
set_option maxHeartbeats 4000000 in
theorem walk (w : World) (fr n : Int) : Calls Try.prog 5 #[.int .i64 fr, .int .i64 n] w fun e w' => e = .returned (.bool true) ∧ Fr NoBlk w w' := by
  obtain ⟨q, hq, hq1⟩ := low_bits fr 1023 (by omega)
  rw [show ((1023 : Nat) : Int) = 1023 from rfl] at hq
  obtain ⟨st, hst⟩ : ∃ st, st = q % 65 := ⟨_, rfl⟩
  have hs64 : st ≤ 64 := by omega
  have hrem : (q : Int).tmod 65 = (st : Int) := by rw [Int.tmod_eq_emod_of_nonneg (by omega)]; omega
  clear hst
  have HS := Lib.hid hs64
  have K0 := Lib.hid fun W => newLeI W 1 1 (st : Int) (by omega) (by omega)
  have K1 := Lib.hid fun w W g bp bt bv (h : LeI w W g bp bt bv (newI 1 (st : Int))) => h.offer (by show 0 < 100000; decide) 3
  rw [(f0 st 3).1, (f0 st 3).2] at K1
  have K2 := Lib.hid fun w W g bp bt bv (h : LeI w W g bp bt bv (newI 1 (st : Int))) => h.prom0 (by show 0 < 1000; decide) (by show 0 < 100000; decide) 0 (wf64_of (by omega))
  rw [f1 st] at K2
  have K3 : Hid (∀ (s : Nat) (v : Int), s < 64 → ∀ w W g bp bt bv, LeI w W g bp bt bv (fu s) → Calls Try.prog 28 #[.pointer (some ⟨g, 0, none⟩), .int .i64 v] W fun e w' => e = .returned (.bool true) ∧ LeI w w' g bp bt bv (fv s v)) := fun s v hs w W g bp bt bv h => by
    have := h.offer (by show 0 < 100000; decide) v
    rwa [(f2 s hs v).1, (f2 s hs v).2] at this
  have K4 : Hid (∀ (s : Nat) (v u : Int), ∀ w W g bp bt bv, LeI w W g bp bt bv (fv s v) → Calls Try.prog 28 #[.pointer (some ⟨g, 0, none⟩), .int .i64 u] W fun e w' => e = .returned (.bool false) ∧ LeI w w' g bp bt bv (fv s v)) := fun s v u w W g bp bt bv h => by
    have := h.offer (by show 1 < 100000; decide) u
    rwa [(f3 s v u).1, (f3 s v u).2] at this
  have K5 : Hid (∀ (s : Nat) (v : Int), ∀ w W g bp bt bv, LeI w W g bp bt bv (fv s v) → Calls Try.prog 32 #[.pointer (some ⟨g, 0, none⟩), .int .i64 0, .int .i64 s] W fun e w' => e = .returned (.tuple #[.int .i64 v, .bool true]) ∧ LeI w w' g bp bt bv (fu (s + 1))) := fun s v w W g bp bt bv h => by
    have := h.taken (by show 0 < 1000; decide) 0 s (wf64_of (by omega))
    rwa [f4 s v] at this
  have K6 : Hid (∀ (s : Nat), ∀ w W g bp bt bv, LeI w W g bp bt bv (fu s) → Calls Try.prog 29 #[.pointer (some ⟨g, 0, none⟩)] W fun e w' => e = .returned (.int .i64 (s : Int)) ∧ W = w') := fun s w W g bp bt bv h => h.slot_
  have K7 : Hid (∀ w W g bp bt bv, LeI w W g bp bt bv (fu 64) → Calls Try.prog 30 #[.pointer (some ⟨g, 0, none⟩)] W fun e w' => e = .returned (.tuple #[.int .i64 0, .bool false]) ∧ LeI w w' g bp bt bv (fu 64)) := fun w W g bp bt bv h => h.value
  have K8 : Hid (∀ w W g bp bt bv, LeI w W g bp bt bv (fu 64) → Calls Try.prog 32 #[.pointer (some ⟨g, 0, none⟩), .int .i64 0, .int .i64 n] W fun e w' => e = .returned (.tuple #[.int .i64 0, .bool false]) ∧ LeI w w' g bp bt bv (fu 64)) := fun w W g bp bt bv h => h.taken (by show 0 < 1000; decide) 0 n (wf64_of (by omega))
  have K9 : Hid (∀ w W g bp bt bv, LeI w W g bp bt bv (fu 64) → Calls Try.prog 28 #[.pointer (some ⟨g, 0, none⟩), .int .i64 1] W fun e w' => e = .returned (.bool false) ∧ LeI w w' g bp bt bv (fu 64)) := fun w W g bp bt bv h => h.offer (by show 0 < 100000; decide) 1
  have K6' := Lib.hid (K6.out 64)
  unfold evI at K1
  generalize newI 1 (st : Int) = LN at *
  go_enter Try.func5, Try.ntmps5
  go_wp2_with fail
  refine (speaks_any w).mono ?_
  rintro e w1 ⟨rfl, hf1⟩
  have HF1 := Lib.hid hf1
  clear hf1
  go_wp2_with fail
  refine (K0.out w1).mono ?_
  clear K0
  rintro e w2 ⟨g, bp, bt, bv, rfl, h2⟩
  have H2 := Lib.hid h2
  clear h2 hq
  go_wp2_with fail
  refine (K1.out _ _ _ _ _ _ H2.out).mono ?_
  clear K1
  rintro e w3 ⟨rfl, h3⟩
  have H3 := Lib.hid h3
  clear h3
  go_wp2_with fail
  refine (K2.out _ _ _ _ _ _ H3.out).mono ?_
  clear K2
  rintro e w4 ⟨rfl, h4⟩
  have H4 := Lib.hid h4
  clear h4
  go_wp2_with fail
  go_loopw [8] (fun i wr => ∃ s : Nat, s ≤ 64 ∧ i = .int .i64 s ∧ Hid (LeI w1 wr g bp bt bv (fu s))) (fun i _ => 64 - (intOf i).toNat)
  case atStart => exact ⟨st, HS.out, rfl, H4.out⟩
  case round =>
    clear H4
    obtain ⟨s, hs, rfl, HX⟩ := hrel
    by_cases hlt : (s : Int) < 64
    · have hsl : s < 64 := by omega
      have hwr : IntKind.i64.wrap ((s : Int) + 1) = (s : Int) + 1 := IntWalk.i64_in _ (by omega)
      go_wp2_with fail
      refine (K3.out s s hsl _ _ _ _ _ _ HX.out).mono ?_
      rintro e w5 ⟨rfl, h5⟩
      have H5 := Lib.hid h5
      clear h5
      go_wp2_with fail
      refine (K4.out s s _ _ _ _ _ _ _ H5.out).mono ?_
      rintro e w6 ⟨rfl, h6⟩
      have H6 := Lib.hid h6
      clear h6
      go_wp2_with fail
      refine (K5.out s s _ _ _ _ _ _ H6.out).mono ?_
      rintro e w7 ⟨rfl, h7⟩
      have H7 := Lib.hid h7
      clear h7
      have KS := Lib.hid (K6.out (s + 1) _ _ _ _ _ _ H7.out)
      rw [show ((s + 1 : Nat) : Int) = (s : Int) + 1 by omega] at KS
      go_wp2_with fail
      refine KS.out.mono ?_
      clear KS
      rintro e w8 ⟨rfl, h8⟩
      subst h8
      go_wp2_with fail
      go_roundw
      case rel => exact ⟨s + 1, by omega, by go_num, H7.out⟩
      case measure => simp [intOf]; omega
    · obtain rfl : s = 64 := by omega
      clear hlt hs
      go_wp2_with fail
      refine (K7.out _ _ _ _ _ _ HX.out).mono ?_
      rintro e w5 ⟨rfl, h5⟩
      have H5 := Lib.hid h5
      clear h5
      go_wp2_with fail
      refine (K8.out _ _ _ _ _ _ H5.out).mono ?_
      rintro e w6 ⟨rfl, h6⟩
      have H6 := Lib.hid h6
      clear h6
      go_wp2_with fail
      refine (K9.out _ _ _ _ _ _ H6.out).mono ?_
      rintro e w7 ⟨rfl, h7⟩
      have H7 := Lib.hid h7
      clear h7
      go_wp2_with fail
      refine (K6'.out _ _ _ _ _ _ H7.out).mono ?_
      rintro e w8 ⟨rfl, h8⟩
      subst h8
      have HZ := Lib.hid (HF1.out.trans H7.out.fr)
      go_wp2_with fail
      go_ret
      exact ⟨rfl, HZ.out⟩

theorem paramsOk : ∀ t ∈ Try.f5.params.toList, Try.prog.readableRec t = true ∧ t < Try.prog.types.size := fun t ht => by
  have h := List.all_eq_true.1 (show (Try.f5.params.toList.all fun t => Try.prog.readableRec t && decide (t < Try.prog.types.size)) = true by kernel_rfl) t ht
  simpa using h

set_option maxRecDepth 100000 in
theorem lifted (os : Os) (started : os.Started) (H : Type) (enc : TypeId × Value → H) :
    ReturnsInHanded {} Try.checked os 5 .any (Rows.leadFullSpec.pre6 enc Try.prog Try.f5 Rows.leadFullRow.domain false) (Rows.leadFullSpec.post enc Try.prog Try.f5 false true false false) := by
  refine returnsInHanded_of_change (C := Try.checked) own started (by kernel_rfl) Try.func5
    (ChangeSpec.witness6 (enc := enc) (C := Try.checked) false ⟨#[], #[.int .i64 0, .int .i64 0], []⟩ 8 (by kernel_rfl) (by kernel_rfl) (by kernel_rfl) (by kernel_rfl)) ?_
  intro W base args ds gs before hval0 hW _ _
  have hval : ∀ (j : Nat) t v, Try.f5.params[j]? = some t → args[j]? = some v → Value.okWide Try.prog W .any base t v := hval0
  have hW' := hW
  obtain ⟨p, q, hA0, hV, rfl, _, _⟩ := hW
  have hA : DataW.TrodAll enc Try.prog W 0 (fun _ => true) true Try.f5.params.toList args.toList ds p := hA0
  rw [Try.params5] at hA hval
  obtain ⟨v0, vs0, d0, ds0, p0, q0, hargs, rfl, rfl, h0, r0⟩ := trodAll_cons hA
  obtain ⟨v1, vs1, d1, ds1, p1, q1, rfl, rfl, rfl, h1, r1⟩ := trodAll_cons r0
  obtain ⟨rfl, rfl, rfl⟩ := trodAll_nil r1
  obtain rfl : args = #[v0, v1] := by cases args; simp_all
  obtain ⟨rfl, rfl⟩ := trodVars_none hV
  obtain ⟨z0, rfl, rfl, rfl, w0⟩ := open_int Try.underlying3 (hval 0 _ v0 rfl rfl) h0
  obtain ⟨z1, rfl, rfl, rfl, w1⟩ := open_int Try.underlying3 (hval 1 _ v1 rfl rfl) h1
  have walk := walk W z0 z1
  clear hA0 hval0
  refine walk.mono fun e W' ⟨he, hf⟩ => ?_
  subst he
  exact ⟨_, rfl, law_post laidOut paramsOk rfl rfl Try.underlying4 hW' rfl rfl rfl hf⟩

theorem said : Rows.LeadFullSaid :=
  OpenClaim.holds_of_wide 5 Try.f5 rfl rfl rfl rfl rfl rfl rfl ⟨rfl, rfl, rfl, rfl, rfl⟩ rfl rfl rfl rfl rfl (by kernel_rfl) Try.func5 (by kernel_rfl)
    (of_decide_eq_true (by kernel_rfl)) (by unfold Func.isWrapper; first | (rw [if_pos (by decide +kernel)]; kernel_rfl) | (rw [if_neg (by decide +kernel)]; exact ⟨rfl, rfl⟩))
    (fun os started H enc _ => lifted os started H enc)
end Go.Proofs.Ytimfinpifngdiaa.leadFull
