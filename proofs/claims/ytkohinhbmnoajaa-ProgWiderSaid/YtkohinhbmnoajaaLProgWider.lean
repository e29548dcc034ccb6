/- ProgWider is true: what may be read may be read, too, if it may be written. No condition. -/
import Derived.Test.YtkohinhbmnoajaaLawp
import Derived.Test.YtkohinhbmnoajaaSpeaks5
import Derived.Test.YtkohinhbmnoajaaOpenT
import Derived.Test.YtkohinhbmnoajaaWiderP
import Derived.Test.YtkohinhbmnoajaaCopy
import Derived.Deep.RegionWith
namespace Go.Proofs.Ytkohinhbmnoajaa.progWider
open Go.ChangeShapes Go.WideShapes Go.ChangeAt Go.RowKit

theorem sTwo {w' : World} {g g' : Nat} {T : TypeId} {t u : Tx} (h1 : Bk w' g T (txa u)) (h2 : Bk w' g' T (txa t)) :
    w'.cell? ⟨g, 0, none⟩ = some (.int .i64 u.kind) ∧ w'.cell? ⟨g, 1, none⟩ = some (.slice u.ra u.reads.length u.rc) ∧ w'.cell? ⟨g, 2, none⟩ = some (.slice u.wa u.writes.length u.wc) ∧ w'.cell? ⟨g, 3, none⟩ = some (.slice u.oa u.ops.length u.oc) ∧ w'.cell? ⟨g, 4, none⟩ = some (.int .i64 u.to) ∧
    w'.cell? ⟨g', 0, none⟩ = some (.int .i64 t.kind) ∧ w'.cell? ⟨g', 1, none⟩ = some (.slice t.ra t.reads.length t.rc) ∧ w'.cell? ⟨g', 2, none⟩ = some (.slice t.wa t.writes.length t.wc) ∧ w'.cell? ⟨g', 3, none⟩ = some (.slice t.oa t.ops.length t.oc) ∧ w'.cell? ⟨g', 4, none⟩ = some (.int .i64 t.to) :=
  ⟨h1.cell 0, h1.cell 1, h1.cell 2, h1.cell 3, h1.cell 4, h2.cell 0, h2.cell 1, h2.cell 2, h2.cell 3, h2.cell 4⟩

set_option maxRecDepth 100000 in
set_option maxHeartbeats 4000000 in
theorem walk (w : World) (t : Tx) (ht : TxIn w t) : Calls Try.prog 9 #[txv t] w fun e w' => e = .returned (.bool true) ∧ Fr NoBlk w w' := by
  have HT := Lib.hid ht
  have HF0 : Hid (Fr NoBlk w (w.alloc (.cells (txa t) 26))) := (Fr.refl _ _).alloc _
  have HB0 := Lib.hid (Bk.new w 26 (txa t))
  clear ht
  unfold txv
  unfold txa at HF0
  unfold txa
  go_enter Try.func9, Try.ntmps9
  go_wp2_with fail
  refine (speaks_any _).mono ?_
  rintro e w1 ⟨rfl, hf1⟩
  have HF1 := Lib.hid (HF0.out.trans hf1)
  have HB1 := Lib.hid (HB0.out.fr hf1 (fun h => h))
  obtain ⟨c0, c1, c2, c3, c4⟩ := HB1.out.txn
  clear hf1 HF0 HB0
  go_wp2_with fail
  refine (great_any w1 t (HT.out.nofr HF1.out)).mono ?_
  rintro e w2 ⟨⟨bb, rfl, hsm⟩, hf2⟩
  have HF2 := Lib.hid (HF1.out.trans hf2)
  have HB2 := Lib.hid (HB1.out.fr hf2 (fun h => h))
  have HSM := Lib.hid hsm
  clear c0 c1 c2 c3 c4 hf2 HB1 HF1 hsm
  cases bb
  rotate_left
  · go_wp2_with fail
    go_ret
    exact ⟨rfl, HF2.out⟩
  have HS := Lib.hid (HSM.out rfl)
  obtain ⟨c0, c1, c2, c3, c4⟩ := HB2.out.txn
  have hck := check_any w2 t 3 (HT.out.nofr HF2.out) (by have := HS.out.r; omega) (by have := HS.out.w; omega)
  have HR : Hid (rightR t 3 = true ∨ rightR t 3 = false) := by cases rightR t 3 <;> simp [Hid]
  rcases HR.out with hr | hr
  rotate_left
  · rw [hr] at hck
    have HCK := Lib.hid hck
    clear hck hr HR HSM
    unfold txv txa at HCK
    go_wp2_with fail
    refine HCK.out.mono ?_
    rintro e w3 ⟨rfl, hf3⟩
    have HF3 := Lib.hid (HF2.out.trans hf3)
    clear hf3 c0 c1 c2 c3 c4
    unfold codeR
    simp only [Bool.false_eq_true, if_false]
    go_wp2_with fail
    go_ret
    exact ⟨rfl, HF3.out⟩
  rw [hr] at hck
  have HRT := Lib.hid hr
  have HCK := Lib.hid hck
  clear hck hr HR HSM
  unfold txv txa at HCK
  go_wp2_with fail
  refine HCK.out.mono ?_
  rintro e w3 ⟨rfl, hf3⟩
  have HF3 := Lib.hid (HF2.out.trans hf3)
  have HB3 := Lib.hid (HB2.out.fr hf3 (fun h => h))
  clear hf3 c0 c1 c2 c3 c4 HB2 HF2 HCK
  obtain ⟨c0, c1, c2, c3, c4⟩ := HB3.out.txn
  unfold codeR
  simp only [if_true]
  by_cases hk1 : t.kind = 1
  rotate_left
  · have g1 : ((t.kind : Int) != 1) = true := by rw [bne_iff_ne]; exact hk1
    clear hk1
    go_wp2_with fail
    go_ret
    exact ⟨rfl, HF3.out⟩
  have g1 : ((t.kind : Int) != 1) = false := by rw [bne_eq_false_iff_eq]; exact hk1
  have HK1 := Lib.hid hk1
  clear hk1
  have hcp := copy_any w3 t (HT.out.nofr HF3.out) HS.out
  have HCP := Lib.hid hcp
  clear hcp
  unfold txv txa at HCP
  go_wp2_with fail
  refine HCP.out.mono ?_
  rintro e w4 ⟨u, rfl, hcp⟩
  have HC := Lib.hid hcp
  have hW5 := (Fr.refl NoBlk w4).alloc (.cells (txa u) 26)
  have HF5 := Lib.hid ((HF3.out.trans hcp.fr).trans hW5)
  have HB5 := Lib.hid ((HB3.out.fr hcp.fr (fun h => h)).fr hW5 (fun h => h))
  have HD5 := Lib.hid (Bk.new w4 26 (txa u))
  have hky := keys_any _ t (HT.out.nofr HF5.out) (by have := HS.out.r; omega) (by have := HS.out.w; omega)
  have HKY := Lib.hid hky
  have hwl : w.heap.size < w4.heap.size := (HB3.out.fr hcp.fr (fun h => h)).lt
  clear c0 c1 c2 c3 c4
  obtain ⟨c0, c1, c2, c3, c4⟩ := (HB3.out.fr hcp.fr (fun h => h)).txn
  clear hcp hky HCP HB3
  unfold txv at HKY ⊢
  unfold txa at HKY ⊢
  go_wp2_with fail
  refine HKY.out.mono ?_
  rintro e w6 ⟨A, c, ks, rfl, hks, hka⟩
  have HKS := Lib.hid hks
  have HKA := Lib.hid hka
  have hf6 : Fr NoBlk w4 w6 := hW5.trans hka.fr
  have HD6 := Lib.hid (HD5.out.fr hka.fr (fun h => h))
  obtain ⟨gc, hgc⟩ : ∃ gc, gc = w4.heap.size := ⟨_, rfl⟩
  rw [← hgc] at HD6 HD5
  have HGC := Lib.hid hgc
  obtain ⟨d0, d1, d2, d3, d4⟩ := HD6.out.txn
  have f1 := HD6.out.free 1
  have f2 := HD6.out.free 2
  have HF6 := Lib.hid (HF5.out.trans hka.fr)
  have HB6 := Lib.hid (HB5.out.fr hka.fr (fun h => h))
  have H46 := Lib.hid hf6
  rw [← HGC.out] at hwl ⊢
  clear hks hka hW5 hgc HKY hf6 c0 c1 c2 c3 c4
  have hgn : gc ≠ w.heap.size := by omega
  have HFW : Hid (Fr (fun k => k = gc) w6 ((w6.setCell ⟨gc, 1, none⟩ (.slice none 0 0)).setCell ⟨gc, 2, none⟩ (.slice A ks.length c))) := Fr.putV (Fr.putV (Fr.refl _ _))
  have HDW : Hid (Bk ((w6.setCell ⟨gc, 1, none⟩ (.slice none 0 0)).setCell ⟨gc, 2, none⟩ (.slice A ks.length c)) gc 26 (txa (widerT u A c ks))) := (HD6.out.put 1 _).put 2 _
  have HBW : Hid (Bk ((w6.setCell ⟨gc, 1, none⟩ (.slice none 0 0)).setCell ⟨gc, 2, none⟩ (.slice A ks.length c)) w.heap.size 26 (txa t)) := HB6.out.fr HFW.out (fun e => hgn e.symm)
  have HFZ : Hid (Fr NoBlk w ((w6.setCell ⟨gc, 1, none⟩ (.slice none 0 0)).setCell ⟨gc, 2, none⟩ (.slice A ks.length c))) := HF6.out.step HFW.out (fun i hi e => by omega)
  have H4W : Hid (Fr NoBlk w4 ((w6.setCell ⟨gc, 1, none⟩ (.slice none 0 0)).setCell ⟨gc, 2, none⟩ (.slice A ks.length c))) := H46.out.step HFW.out (fun i hi e => by have := HGC.out; omega)
  have HUW : Hid (TxIn ((w6.setCell ⟨gc, 1, none⟩ (.slice none 0 0)).setCell ⟨gc, 2, none⟩ (.slice A ks.length c)) (widerT u A c ks)) := by
    have hu := HC.out.inn.nofr H4W.out
    refine ⟨Rd.none_ _ _, HKA.out.rd.fr' HFW.out (fun hp k hk e => ?_), hu.ops, hu.vals, ⟨(fun k h => by cases h), fun k hk => ?_⟩, ⟨Nat.le_refl _, Nat.zero_le _, fun _ => rfl⟩, ⟨HKA.out.le, HKA.out.max, HKA.out.nil⟩, hu.ol⟩
    · have h1 := HKA.out.own k hk
      simp at h1
      have := HGC.out
      omega
    · rcases (HKS.out.2 k).1 hk with h | h
      · exact HT.out.texts.1 k h
      · exact HT.out.texts.2 k h
  have hlen : ks.length ≤ 1000 := by
    obtain ⟨_, _, a3, a4, a5, a6, _⟩ := right_parts HRT.out
    rw [keys_len a4 a5 a6 HKS.out]
    omega
  have HCKW := Lib.hid fun W (hf : Fr NoBlk ((w6.setCell ⟨gc, 1, none⟩ (.slice none 0 0)).setCell ⟨gc, 2, none⟩ (.slice A ks.length c)) W) => check_any W (widerT u A c ks) 3 (HUW.out.nofr hf) (by show 0 ≤ 1000; omega) hlen
  rw [wider_right HC.out HKS.out HRT.out HK1.out] at HCKW
  have HKYC := Lib.hid fun W (hf : Fr NoBlk ((w6.setCell ⟨gc, 1, none⟩ (.slice none 0 0)).setCell ⟨gc, 2, none⟩ (.slice A ks.length c)) W) => keys_any W (widerT u A c ks) (HUW.out.nofr hf) (by show 0 ≤ 1000; omega) hlen
  have HKYT := Lib.hid fun W (hf : Fr NoBlk w W) => keys_any W t (HT.out.nofr hf) (by have := HS.out.r; omega) (by have := HS.out.w; omega)
  have HS0 := Lib.hid (sTwo HDW.out HBW.out)
  have hcr : codeR true = 0 := rfl
  clear hlen
  unfold txv txa widerT at HCKW HKYC
  unfold txv txa at HKYT
  dsimp only [List.length_nil] at HCKW HKYC
  go_wp2_with fail
  go_region_held3 (fun w' => w'.cell? ⟨gc, 0, none⟩ = some (.int .i64 u.kind) ∧ w'.cell? ⟨gc, 1, none⟩ = some (.slice none 0 0) ∧ w'.cell? ⟨gc, 2, none⟩ = some (.slice A ks.length c) ∧ w'.cell? ⟨gc, 3, none⟩ = some (.slice u.oa u.ops.length u.oc) ∧ w'.cell? ⟨gc, 4, none⟩ = some (.int .i64 u.to) ∧ w'.cell? ⟨w.heap.size, 0, none⟩ = some (.int .i64 t.kind) ∧ w'.cell? ⟨w.heap.size, 1, none⟩ = some (.slice t.ra t.reads.length t.rc) ∧ w'.cell? ⟨w.heap.size, 2, none⟩ = some (.slice t.wa t.writes.length t.wc) ∧ w'.cell? ⟨w.heap.size, 3, none⟩ = some (.slice t.oa t.ops.length t.oc) ∧ w'.cell? ⟨w.heap.size, 4, none⟩ = some (.int .i64 t.to))
    ((first | exact hS9 | exact hS8 | exact hS7 | exact HS0.out))
    (first
      | (go_at_call 13; refine (HCKW.out _ ?_).mono ?_; exact ((Fr.refl _ _).drew); rintro e w7 ⟨rfl, hf7⟩; have HF7 := Lib.hid (((Fr.refl NoBlk _).drew).trans hf7); have hS7 := sTwo (HDW.out.fr HF7.out (fun h => h)) (HBW.out.fr HF7.out (fun h => h)); clear hf7)
      | (go_at_call_of 17 (Value.agg #[.int .i64 u.kind, .slice none 0 0, .slice A ks.length c, .slice u.oa u.ops.length u.oc, .int .i64 u.to]); refine (HKYC.out _ ?_).mono ?_; exact HF7.out; rintro e w8 ⟨A8, c8, ks8, rfl, hk8, ha8⟩; have HK8 := Lib.hid hk8; have HA8 := Lib.hid ha8; have HF8 := Lib.hid (HF7.out.trans ha8.fr); have hS8 := sTwo (HDW.out.fr HF8.out (fun h => h)) (HBW.out.fr HF8.out (fun h => h)); clear hk8 ha8)
      | (go_at_call_of 17 (Value.agg #[.int .i64 t.kind, .slice t.ra t.reads.length t.rc, .slice t.wa t.writes.length t.wc, .slice t.oa t.ops.length t.oc, .int .i64 t.to]); refine (HKYT.out _ ?_).mono ?_; exact HFZ.out.trans HF8.out; rintro e w9 ⟨A9, c9, ks9, rfl, hk9, ha9⟩; have HK9 := Lib.hid hk9; have HA9 := Lib.hid ha9; have HF9 := Lib.hid (HF8.out.trans ha9.fr); have hS9 := sTwo (HDW.out.fr HF9.out (fun h => h)) (HBW.out.fr HF9.out (fun h => h)); clear hk9 ha9)
      | (go_at_call 16; refine (sameTexts_any _ A8 A9 _ _ c8 c9 ks8 ks9 rfl rfl (HA8.out.rd.nofr HA9.out.fr) HA9.out.rd (Nat.le_trans HA8.out.le HA8.out.max) (Nat.le_trans HA9.out.le HA9.out.max)).mono ?_; rintro e w10 ⟨rfl, hf10⟩; have HF10 := Lib.hid (HF9.out.trans hf10); have hS9 := sTwo (HDW.out.fr HF10.out (fun h => h)) (HBW.out.fr HF10.out (fun h => h)); clear hf10))
  have HEQ : Hid ((ks8 == ks9) = true) := by
    show _ = _
    rw [beq_iff_eq, keys_again HKS.out HK8.out]
    exact HKS.out.unique HK9.out
  rw [HEQ.out]
  go_wp2_with fail
  go_ret
  exact ⟨rfl, HFZ.out.trans HF10.out⟩

theorem paramsOk : ∀ t ∈ Try.f9.params.toList, Try.prog.readableRec t = true ∧ t < Try.prog.types.size := fun t ht => by
  have h := List.all_eq_true.1 (show (Try.f9.params.toList.all fun t => Try.prog.readableRec t && decide (t < Try.prog.types.size)) = true by kernel_rfl) t ht
  simpa using h

set_option maxRecDepth 100000 in
theorem lifted (os : Os) (started : os.Started) (H : Type) (enc : TypeId × Value → H) :
    ReturnsInHanded {} Try.checked os 9 .any (Rows.progWiderSpec.pre6 enc Try.prog Try.f9 Rows.progWiderRow.domain false) (Rows.progWiderSpec.post enc Try.prog Try.f9 false true false false) := by
  refine returnsInHanded_of_change (C := Try.checked) own started (by kernel_rfl) Try.func9
    (ChangeSpec.witness6 (enc := enc) (C := Try.checked) false ⟨#[], #[.agg #[.int .i64 0, .slice none 0 0, .slice none 0 0, .slice none 0 0, .int .i64 0]], []⟩ 8 (by kernel_rfl) (by kernel_rfl) (by kernel_rfl) (by kernel_rfl)) ?_
  intro W base args ds gs before hval0 hW _ _
  have hval : ∀ (j : Nat) t v, Try.f9.params[j]? = some t → args[j]? = some v → Value.okWide Try.prog W .any base t v := hval0
  have hW' := hW
  obtain ⟨p, q, hA0, hV, rfl, _, _⟩ := hW
  have hA : DataW.TrodAll enc Try.prog W 0 (fun _ => true) true Try.f9.params.toList args.toList ds p := hA0
  rw [Try.params9] at hA hval
  obtain ⟨v0, vs0, d0, ds0, p0, q0, hargs, rfl, rfl, h0, r0⟩ := trodAll_cons hA
  obtain ⟨rfl, rfl, rfl⟩ := trodAll_nil r0
  obtain rfl : args = #[v0] := by cases args; simp_all
  obtain ⟨rfl, rfl⟩ := trodVars_none hV
  obtain ⟨t, rfl, ht⟩ := open_txn (hval 0 _ v0 rfl rfl) h0
  have walk := walk W t ht
  clear hA0 hval0
  refine walk.mono fun e W' ⟨he, hf⟩ => ?_
  subst he
  exact ⟨_, rfl, law_post laidOut paramsOk rfl rfl Try.underlying4 hW' rfl rfl rfl hf⟩

theorem said : Rows.ProgWiderSaid :=
  OpenClaim.holds_of_wide 9 Try.f9 rfl rfl rfl rfl rfl rfl rfl ⟨rfl, rfl, rfl, rfl, rfl⟩ rfl rfl rfl rfl rfl (by kernel_rfl) Try.func9 (by kernel_rfl)
    (of_decide_eq_true (by kernel_rfl)) (by unfold Func.isWrapper; first | (rw [if_pos (by decide +kernel)]; kernel_rfl) | (rw [if_neg (by decide +kernel)]; exact ⟨rfl, rfl⟩))
    (fun os started H enc _ => lifted os started H enc)
end Go.Proofs.Ytkohinhbmnoajaa.progWider
