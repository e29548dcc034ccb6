/- DiskRenames is true: a file that was written, synced and renamed over another one is either there whole, or the other one is. No condition. -/
import Derived.Test.YtbkcjaagdcijmaaRenL
import Derived.Test.YtbkcjaagdcijmaaOpenA
namespace Go.Proofs.Ytbkcjaagdcijmaa.diskRenames
open Go.ChangeShapes Go.WideShapes Go.ChangeAt Go.RowKit

set_option maxRecDepth 100000 in
set_option maxHeartbeats 4000000 in
theorem walk (w : World) (x y : Prt) (calls : Int) (K : Option Addr) (kc : Nat) (ks : List Int) (hx : Part w x) (hxl : x.2.2.length ≤ maxLen) (hy : Part w y) (hyl : y.2.2.length ≤ maxLen) (hk : Rd w K (ics ks)) (hkl : ks.length ≤ maxLen) :
    Calls Try.prog 6 #[.agg #[sl x, sl y], .int .i64 calls, .slice K ks.length kc] w fun e w' => e = .returned (.bool true) ∧ Fr NoBlk w w' := by
  have HF0 : Hid (Fr NoBlk w (w.alloc (.cells #[sl x, sl y] 49))) := (Fr.refl _ _).alloc _
  have HB : Hid (Bk (w.alloc (.cells #[sl x, sl y] 49)) w.heap.size 49 #[sl x, sl y]) := Bk.new _ _ _
  have HC := Lib.hid fun W (hf : Fr NoBlk w W) => renames_any W x.1 x.2.1 x.2.2 y.1 y.2.1 y.2.2 calls K kc ks (hx.1.nofr hf) hx.2 hxl (hy.1.nofr hf) hy.2 hyl (hk.nofr hf) hkl
  clear hx hxl hy hyl hk hkl
  obtain ⟨Ax, cx, lx⟩ := x
  obtain ⟨Ay, cy, ly⟩ := y
  unfold sl at HF0 HB ⊢
  dsimp only at HF0 HB HC ⊢
  go_enter Try.func6, Try.ntmps6
  go_wp2_with fail
  refine (speaks_any _).mono ?_
  rintro e w1 ⟨rfl, hf1⟩
  have HB1 := Lib.hid (HB.out.fr hf1 fun h => h)
  have HF1 := Lib.hid (HF0.out.trans hf1)
  have q0 : w1.cell? ⟨w.heap.size, 0, none⟩ = some (.slice Ax lx.length cx) := HB1.out.cell 0
  have q1 : w1.cell? ⟨w.heap.size, 1, none⟩ = some (.slice Ay ly.length cy) := HB1.out.cell 1
  have HD := Lib.hid (HC.out w1 HF1.out)
  clear hf1 HC HB
  go_wp2_with fail
  refine HD.out.mono ?_
  rintro e w2 ⟨rfl, hf2⟩
  have HF2 := Lib.hid (HF1.out.trans hf2)
  clear hf2 HD
  go_wp2_with fail
  go_ret
  exact ⟨rfl, HF2.out⟩

theorem paramsOk : ∀ t ∈ Try.f6.params.toList, Try.prog.readableRec t = true ∧ t < Try.prog.types.size := fun t ht => by
  have h := List.all_eq_true.1 (show (Try.f6.params.toList.all fun t => Try.prog.readableRec t && decide (t < Try.prog.types.size)) = true by kernel_rfl) t ht
  simpa using h

set_option maxRecDepth 100000 in
theorem lifted (os : Os) (started : os.Started) (H : Type) (enc : TypeId × Value → H) :
    ReturnsInHanded {} Try.checked os 6 .any (Rows.diskRenamesSpec.pre6 enc Try.prog Try.f6 Rows.diskRenamesRow.domain false) (Rows.diskRenamesSpec.post enc Try.prog Try.f6 false true false false) := by
  refine returnsInHanded_of_change (C := Try.checked) own started (by kernel_rfl) Try.func6
    (ChangeSpec.witness6 (enc := enc) (C := Try.checked) false ⟨#[], #[.agg #[.slice none 0 0, .slice none 0 0], .int .i64 0, .slice none 0 0], []⟩ 8 (by kernel_rfl) (by kernel_rfl) (by kernel_rfl) (by kernel_rfl)) ?_
  intro W base args ds gs before hval0 hW _ _
  have hval : ∀ (j : Nat) t v, Try.f6.params[j]? = some t → args[j]? = some v → Value.okWide Try.prog W .any base t v := hval0
  have hW' := hW
  obtain ⟨p, q, hA0, hV, rfl, _, _⟩ := hW
  have hA : DataW.TrodAll enc Try.prog W 0 (fun _ => true) true Try.f6.params.toList args.toList ds p := hA0
  rw [Try.params6] at hA hval
  obtain ⟨v0, vs0, d0, ds0, p0, q0, hargs, rfl, rfl, h0, r0⟩ := trodAll_cons hA
  obtain ⟨v1, vs1, d1, ds1, p1, q1, rfl, rfl, rfl, h1, r1⟩ := trodAll_cons r0
  obtain ⟨v2, vs2, d2, ds2, p2, q2, rfl, rfl, rfl, h2, r2⟩ := trodAll_cons r1
  obtain ⟨rfl, rfl, rfl⟩ := trodAll_nil r2
  obtain rfl : args = #[v0, v1, v2] := by cases args; simp_all
  obtain ⟨rfl, rfl⟩ := trodVars_none hV
  obtain ⟨x, y, rfl, hx, hy⟩ := open_two (hval 0 _ v0 rfl rfl) h0
  obtain ⟨n, rfl, rfl, rfl, wn⟩ := open_int Try.underlying3 (hval 1 _ v1 rfl rfl) h1
  obtain ⟨K, kc, ks, rfl, hk, _, hkc, hkm⟩ := open_ints1 (hval 2 _ v2 rfl rfl) h2
  have walk := walk W x y n K kc ks hx.1 (Nat.le_trans hx.2.1 hx.2.2) hy.1 (Nat.le_trans hy.2.1 hy.2.2) hk (Nat.le_trans hkc hkm)
  clear hA0 hval0
  refine walk.mono fun e W' ⟨he, hf⟩ => ?_
  subst he
  exact ⟨_, rfl, law_post laidOut paramsOk rfl rfl Try.underlying4 hW' rfl rfl rfl hf⟩

theorem said : Rows.DiskRenamesSaid :=
  OpenClaim.holds_of_wide 6 Try.f6 rfl rfl rfl rfl rfl rfl rfl ⟨rfl, rfl, rfl, rfl, rfl⟩ rfl rfl rfl rfl rfl (by kernel_rfl) Try.func6 (by kernel_rfl)
    (of_decide_eq_true (by kernel_rfl)) (by unfold Func.isWrapper; first | (rw [if_pos (by decide +kernel)]; kernel_rfl) | (rw [if_neg (by decide +kernel)]; exact ⟨rfl, rfl⟩))
    (fun os started H enc _ => lifted os started H enc)
end Go.Proofs.Ytbkcjaagdcijmaa.diskRenames
