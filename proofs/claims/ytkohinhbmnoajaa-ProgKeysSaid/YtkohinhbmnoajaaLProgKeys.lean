/- ProgKeys is true: the keys of any transaction, and which it may write, are told exactly. No condition. -/
import Derived.Test.YtkohinhbmnoajaaLawp
import Derived.Test.YtkohinhbmnoajaaSpeaks5
import Derived.Test.YtkohinhbmnoajaaOpenT
import Derived.Test.YtkohinhbmnoajaaDKeys
import Derived.Test.YtkohinhbmnoajaaWiderP
import Derived.Test.YtkohinhbmnoajaaCopyA
import Derived.Test.YtkohinhbmnoajaaAlike
import Derived.ChangeMaps5
import Derived.Deep.RegionWith
namespace Go.Proofs.Ytkohinhbmnoajaa.progKeys
open Go.ChangeShapes Go.WideShapes Go.ChangeAt Go.RowKit

theorem sTwo {w' : World} {g g' : Nat} {T : TypeId} {t u : Tx} (h1 : Bk w' g T (txa u)) (h2 : Bk w' g' T (txa t)) :
    w'.cell? ⟨g, 0, none⟩ = some (.int .i64 u.kind) ∧ w'.cell? ⟨g, 1, none⟩ = some (.slice u.ra u.reads.length u.rc) ∧ w'.cell? ⟨g, 2, none⟩ = some (.slice u.wa u.writes.length u.wc) ∧ w'.cell? ⟨g, 3, none⟩ = some (.slice u.oa u.ops.length u.oc) ∧ w'.cell? ⟨g, 4, none⟩ = some (.int .i64 u.to) ∧
    w'.cell? ⟨g', 0, none⟩ = some (.int .i64 t.kind) ∧ w'.cell? ⟨g', 1, none⟩ = some (.slice t.ra t.reads.length t.rc) ∧ w'.cell? ⟨g', 2, none⟩ = some (.slice t.wa t.writes.length t.wc) ∧ w'.cell? ⟨g', 3, none⟩ = some (.slice t.oa t.ops.length t.oc) ∧ w'.cell? ⟨g', 4, none⟩ = some (.int .i64 t.to) :=
  ⟨h1.cell 0, h1.cell 1, h1.cell 2, h1.cell 3, h1.cell 4, h2.cell 0, h2.cell 1, h2.cell 2, h2.cell 3, h2.cell 4⟩

set_option maxRecDepth 100000 in
set_option maxHeartbeats 4000000 in
theorem walk (w : World) (t : Tx) (key : Bs) (ht : TxIn w t) : Calls Try.prog 5 #[txv t, .string (bstr key)] w fun e w' => e = .returned (.bool true) ∧ Fr NoBlk w w' := by
  have HT := Lib.hid ht
  have hksz := bstr_size key
  have HF0 : Hid (Fr NoBlk w (w.alloc (.cells (txa t) 26))) := (Fr.refl _ _).alloc _
  have HB0 := Lib.hid (Bk.new w 26 (txa t))
  clear ht
  unfold txv
  unfold txa at HF0
  unfold txa
  go_enter Try.func5, Try.ntmps5
  go_wp2_with fail
  refine (speaks_any _).mono ?_
  rintro e w1 ⟨rfl, hf1⟩
  have HF1 := Lib.hid (HF0.out.trans hf1)
  have HB1 := Lib.hid (HB0.out.fr hf1 (fun h => h))
  obtain ⟨c0, c1, c2, c3, c4⟩ := HB1.out.txn
  clear hf1 HF0 HB0
  go_wp2_with fail
  refine (great_any w1 t (HT.out.nofr HF1.out)).mono ?_
  rintro e w2 ⟨⟨bb, rfl, hsm⟩, hf2⟩
  have HF2 := Lib.hid (HF1.out.trans hf2)
  have HB2 := Lib.hid (HB1.out.fr hf2 (fun h => h))
  have HSM := Lib.hid hsm
  clear c0 c1 c2 c3 c4 hf2 HB1 HF1 hsm
  cases bb
  rotate_left
  · go_wp2_with fail
    go_ret
    exact ⟨rfl, HF2.out⟩
  have HS := Lib.hid (HSM.out rfl)
  obtain ⟨c0, c1, c2, c3, c4⟩ := HB2.out.txn
  by_cases hk3 : 300 < key.length
  · have g3 : (300 : Int) < (key.length : Int) := by omega
    go_wp2_with fail
    go_ret
    exact ⟨rfl, HF2.out⟩
  have g3 : (key.length : Int) ≤ 300 := by omega
  have hcp := copy_anyA w2 t (HT.out.nofr HF2.out) HS.out
  have HCP := Lib.hid hcp
  clear hcp HSM
  unfold txv txa at HCP
  go_wp2_with fail
  refine HCP.out.mono ?_
  rintro e w3 ⟨u, rfl, hcp, _⟩
  have HC := Lib.hid hcp
  have HFW : Hid (Fr NoBlk w3 (w3.alloc (.cells (txa u) 26))) := (Fr.refl _ _).alloc _
  have HF3 := Lib.hid ((HF2.out.trans hcp.fr).trans HFW.out)
  have HB3 := Lib.hid ((HB2.out.fr hcp.fr (fun h => h)).fr HFW.out (fun h => h))
  have HD3 := Lib.hid (Bk.new w3 26 (txa u))
  have HU := Lib.hid (hcp.inn.nofr HFW.out)
  obtain ⟨gc, hgc⟩ : ∃ gc, gc = w3.heap.size := ⟨_, rfl⟩
  have HGC := Lib.hid hgc
  clear c0 c1 c2 c3 c4 hcp hgc HCP
  unfold txv
  unfold txa at HFW HF3 HB3 HD3 HU ⊢
  obtain ⟨d0, d1, d2, d3, d4⟩ := HD3.out.txn
  go_wp2_with fail
  rw [← HGC.out] at HD3 ⊢
  generalize hW : w3.alloc _ = wc at *
  clear hW d0 d1 d2 d3 d4 hksz
  have HS0 := Lib.hid (sTwo HD3.out HB3.out)
  have hur : u.reads.length ≤ 1000 := by rw [HC.out.reads]; have := HS.out.r; omega
  have huw : u.writes.length ≤ 1000 := by rw [HC.out.writes]; have := HS.out.w; omega
  have HKYC := Lib.hid fun W (hf : Fr NoBlk wc W) => keys_any W u (HU.out.nofr hf) hur huw
  have HKYT := Lib.hid fun W (hf : Fr NoBlk w W) => dkeys_any W t (HT.out.nofr hf) HS.out
  have HWR := Lib.hid fun W (hf : Fr NoBlk wc W) => writes_any W u key (HU.out.nofr hf)
  have HIN := Lib.hid fun W (hf : Fr NoBlk w W) => in_any W t.wa _ t.wc t.writes key rfl (HT.out.writes.nofr hf) (Nat.le_trans HT.out.wl.1 HT.out.wl.2.1)
  have HSA := Lib.hid fun W (hf : Fr NoBlk wc W) (hg : Fr NoBlk w W) => same_yes W u t (HU.out.nofr hf) (HT.out.nofr hg) (HC.out.small HS.out) HC.out.kind HC.out.to_ HC.out.reads HC.out.writes HC.out.ops
  rw [show inB u.writes key = inB t.writes key by rw [HC.out.writes]] at HWR
  generalize inB t.writes key = bb at HWR HIN
  clear hur huw
  unfold txv txa at HKYC HKYT HWR HSA
  have sOf : Hid (∀ W, Fr NoBlk wc W → _) := fun W hf => sTwo (HD3.out.fr hf (fun h => h)) (HB3.out.fr hf (fun h => h))
  go_region_held3 (fun w' => w'.cell? ⟨gc, 0, none⟩ = some (.int .i64 u.kind) ∧ w'.cell? ⟨gc, 1, none⟩ = some (.slice u.ra u.reads.length u.rc) ∧ w'.cell? ⟨gc, 2, none⟩ = some (.slice u.wa u.writes.length u.wc) ∧ w'.cell? ⟨gc, 3, none⟩ = some (.slice u.oa u.ops.length u.oc) ∧ w'.cell? ⟨gc, 4, none⟩ = some (.int .i64 u.to) ∧ w'.cell? ⟨w.heap.size, 0, none⟩ = some (.int .i64 t.kind) ∧ w'.cell? ⟨w.heap.size, 1, none⟩ = some (.slice t.ra t.reads.length t.rc) ∧ w'.cell? ⟨w.heap.size, 2, none⟩ = some (.slice t.wa t.writes.length t.wc) ∧ w'.cell? ⟨w.heap.size, 3, none⟩ = some (.slice t.oa t.ops.length t.oc) ∧ w'.cell? ⟨w.heap.size, 4, none⟩ = some (.int .i64 t.to))
    ((first | exact hS9 | exact hS8 | exact hS7 | exact hS6 | exact hS5 | exact HS0.out))
    (first
      | (go_at_call 17; refine (HKYC.out _ ?_).mono ?_; exact ((Fr.refl _ _).drew); rintro e w5 ⟨A5, c5, ks5, rfl, hk5, ha5⟩; have HK5 := Lib.hid hk5; have HA5 := Lib.hid ha5; have HF5 := Lib.hid (((Fr.refl NoBlk wc).drew).trans ha5.fr); have hS5 := sOf.out _ HF5.out; clear hk5 ha5)
      | (go_at_call 18; refine (HKYT.out _ ?_).mono ?_; exact HF3.out.trans HF5.out; rintro e w6 ⟨A6, c6, ks6, rfl, hk6, hr6, hl6, hf6⟩; have HK6 := Lib.hid hk6; have HR6 := Lib.hid hr6; have HL6 := Lib.hid hl6; have HW56 := Lib.hid hf6; have HF6 := Lib.hid (HF5.out.trans hf6); have hS6 := sOf.out _ HF6.out; have HEQ : Hid ((ks5 == ks6) = true) := (by show _ = _; rw [beq_iff_eq]; refine IsKeys.unique (rs := t.reads) (ws := t.writes) ?_ HK6.out; have h := HK5.out; simp only [HC.out.reads, HC.out.writes] at h; exact h); clear hk6 hr6 hl6 hf6)
      | (go_at_call 16; have hst := sameTexts_any _ A5 A6 _ _ c5 c6 ks5 ks6 rfl rfl (HA5.out.rd.nofr HW56.out) HR6.out (Nat.le_trans HA5.out.le HA5.out.max) HL6.out; rw [HEQ.out] at hst; refine hst.mono ?_; clear hst; rintro e w7 ⟨rfl, hf7⟩; have HF7 := Lib.hid (HF6.out.trans hf7); have hS7 := sOf.out _ HF7.out; clear hf7)
      | (go_at_call 19; refine (HWR.out _ ?_).mono ?_; exact HF7.out; rintro e w8 ⟨rfl, hf8⟩; have HF8 := Lib.hid (HF7.out.trans hf8); have hS8 := sOf.out _ HF8.out; clear hf8)
      | (go_at_call 20; refine (HIN.out _ ?_).mono ?_; exact HF3.out.trans HF8.out; rintro e w8b ⟨rfl, rfl⟩)
      | (go_at_call 15; refine (HSA.out _ ?_ ?_).mono ?_; exact HF8.out; exact HF3.out.trans HF8.out; rintro e w9 ⟨rfl, hf9⟩; have HF9 := Lib.hid (HF8.out.trans hf9); have hS9 := sOf.out _ HF9.out; clear hf9))
  all_goals
    go_wp2_with fail
    go_ret
    exact ⟨by simp, HF3.out.trans HF9.out⟩

theorem paramsOk : ∀ t ∈ Try.f5.params.toList, Try.prog.readableRec t = true ∧ t < Try.prog.types.size := fun t ht => by
  have h := List.all_eq_true.1 (show (Try.f5.params.toList.all fun t => Try.prog.readableRec t && decide (t < Try.prog.types.size)) = true by kernel_rfl) t ht
  simpa using h

set_option maxRecDepth 100000 in
theorem lifted (os : Os) (started : os.Started) (H : Type) (enc : TypeId × Value → H) :
    ReturnsInHanded {} Try.checked os 5 .any (Rows.progKeysSpec.pre6 enc Try.prog Try.f5 Rows.progKeysRow.domain false) (Rows.progKeysSpec.post enc Try.prog Try.f5 false true false false) := by
  refine returnsInHanded_of_change (C := Try.checked) own started (by kernel_rfl) Try.func5
    (ChangeSpec.witness6 (enc := enc) (C := Try.checked) false ⟨#[], #[.agg #[.int .i64 0, .slice none 0 0, .slice none 0 0, .slice none 0 0, .int .i64 0], .string ByteArray.empty], []⟩ 8 (by kernel_rfl) (by kernel_rfl) (by kernel_rfl) (by kernel_rfl)) ?_
  intro W base args ds gs before hval0 hW _ _
  have hval : ∀ (j : Nat) t v, Try.f5.params[j]? = some t → args[j]? = some v → Value.okWide Try.prog W .any base t v := hval0
  have hW' := hW
  obtain ⟨p, q, hA0, hV, rfl, _, _⟩ := hW
  have hA : DataW.TrodAll enc Try.prog W 0 (fun _ => true) true Try.f5.params.toList args.toList ds p := hA0
  rw [Try.params5] at hA hval
  obtain ⟨v0, vs0, d0, ds0, p0, q0, hargs, rfl, rfl, h0, r0⟩ := trodAll_cons hA
  obtain ⟨v1, vs1, d1, ds1, p1, q1, rfl, rfl, rfl, h1, r1⟩ := trodAll_cons r0
  obtain ⟨rfl, rfl, rfl⟩ := trodAll_nil r1
  obtain rfl : args = #[v0, v1] := by cases args; simp_all
  obtain ⟨rfl, rfl⟩ := trodVars_none hV
  obtain ⟨t, rfl, ht⟩ := open_txn (hval 0 _ v0 rfl rfl) h0
  obtain ⟨key, rfl, rfl, rfl, _⟩ := Go.ChangeMaps.open_string Try.underlying9 (hval 1 _ v1 rfl rfl) h1
  have walk := walk W t key.data.toList ht
  rw [bstr_eta] at walk
  clear hA0 hval0
  refine walk.mono fun e W' ⟨he, hf⟩ => ?_
  subst he
  exact ⟨_, rfl, law_post laidOut paramsOk rfl rfl Try.underlying4 hW' rfl rfl rfl hf⟩

theorem said : Rows.ProgKeysSaid :=
  OpenClaim.holds_of_wide 5 Try.f5 rfl rfl rfl rfl rfl rfl rfl ⟨rfl, rfl, rfl, rfl, rfl⟩ rfl rfl rfl rfl rfl (by kernel_rfl) Try.func5 (by kernel_rfl)
    (of_decide_eq_true (by kernel_rfl)) (by unfold Func.isWrapper; first | (rw [if_pos (by decide +kernel)]; kernel_rfl) | (rw [if_neg (by decide +kernel)]; exact ⟨rfl, rfl⟩))
    (fun os started H enc _ => lifted os started H enc)
end Go.Proofs.Ytkohinhbmnoajaa.progKeys
