/- ProgOrder is true: the operations' order plays no part in whether a transaction is right, nor in its keys. No condition. -/
import Derived.Test.YtkohinhbmnoajaaLawp
import Derived.Test.YtkohinhbmnoajaaSpeaks5
import Derived.Test.YtkohinhbmnoajaaOpenT
import Derived.Test.YtkohinhbmnoajaaOrderP
import Derived.Deep.RegionWith
namespace Go.Proofs.Ytkohinhbmnoajaa.progOrder
open Go.ChangeShapes Go.WideShapes Go.ChangeAt Go.RowKit

theorem sTwo {w' : World} {g g' : Nat} {T : TypeId} {t u : Tx} (h1 : Bk w' g T (txa u)) (h2 : Bk w' g' T (txa t)) :
    w'.cell? ⟨g, 0, none⟩ = some (.int .i64 u.kind) ∧ w'.cell? ⟨g, 1, none⟩ = some (.slice u.ra u.reads.length u.rc) ∧ w'.cell? ⟨g, 2, none⟩ = some (.slice u.wa u.writes.length u.wc) ∧ w'.cell? ⟨g, 3, none⟩ = some (.slice u.oa u.ops.length u.oc) ∧ w'.cell? ⟨g, 4, none⟩ = some (.int .i64 u.to) ∧
    w'.cell? ⟨g', 0, none⟩ = some (.int .i64 t.kind) ∧ w'.cell? ⟨g', 1, none⟩ = some (.slice t.ra t.reads.length t.rc) ∧ w'.cell? ⟨g', 2, none⟩ = some (.slice t.wa t.writes.length t.wc) ∧ w'.cell? ⟨g', 3, none⟩ = some (.slice t.oa t.ops.length t.oc) ∧ w'.cell? ⟨g', 4, none⟩ = some (.int .i64 t.to) :=
  ⟨h1.cell 0, h1.cell 1, h1.cell 2, h1.cell 3, h1.cell 4, h2.cell 0, h2.cell 1, h2.cell 2, h2.cell 3, h2.cell 4⟩

set_option maxRecDepth 100000 in
set_option maxHeartbeats 4000000 in
theorem walk (w : World) (t : Tx) (r : Int) (ht : TxIn w t) : Calls Try.prog 8 #[txv t, .int .i64 r] w fun e w' => e = .returned (.bool true) ∧ Fr NoBlk w w' := by
  have HT := Lib.hid ht
  have HF0 : Hid (Fr NoBlk w (w.alloc (.cells (txa t) 26))) := (Fr.refl _ _).alloc _
  have HB0 := Lib.hid (Bk.new w 26 (txa t))
  clear ht
  unfold txv
  unfold txa at HF0
  unfold txa
  go_enter Try.func8, Try.ntmps8
  go_wp2_with fail
  refine (speaks_any _).mono ?_
  rintro e w1 ⟨rfl, hf1⟩
  have HF1 := Lib.hid (HF0.out.trans hf1)
  have HB1 := Lib.hid (HB0.out.fr hf1 (fun h => h))
  obtain ⟨c0, c1, c2, c3, c4⟩ := HB1.out.txn
  clear hf1 HF0 HB0
  go_wp2_with fail
  refine (great_any w1 t (HT.out.nofr HF1.out)).mono ?_
  rintro e w2 ⟨⟨bb, rfl, hsm⟩, hf2⟩
  have HF2 := Lib.hid (HF1.out.trans hf2)
  have HB2 := Lib.hid (HB1.out.fr hf2 (fun h => h))
  have HSM := Lib.hid hsm
  clear c0 c1 c2 c3 c4 hf2 HB1 HF1 hsm
  cases bb
  rotate_left
  · go_wp2_with fail
    go_ret
    exact ⟨rfl, HF2.out⟩
  have HS := Lib.hid (HSM.out rfl)
  obtain ⟨c0, c1, c2, c3, c4⟩ := HB2.out.txn
  have hcp := copy_anyA w2 t (HT.out.nofr HF2.out) HS.out
  have HCP := Lib.hid hcp
  clear hcp HSM
  unfold txv txa at HCP
  go_wp2_with fail
  refine HCP.out.mono ?_
  rintro e w3 ⟨u, rfl, hcp, hap⟩
  have HC := Lib.hid hcp
  have HAP := Lib.hid hap
  have HFW : Hid (Fr NoBlk w3 (w3.alloc (.cells (txa u) 26))) := (Fr.refl _ _).alloc _
  have HF3 := Lib.hid ((HF2.out.trans hcp.fr).trans HFW.out)
  have HB3 := Lib.hid ((HB2.out.fr hcp.fr (fun h => h)).fr HFW.out (fun h => h))
  have HD3 := Lib.hid (Bk.new w3 26 (txa u))
  have HUL : Hid (u.ops.length = t.ops.length) := hcp.ops.1
  have hwl : w.heap.size < w3.heap.size := (HB2.out.fr hcp.fr (fun h => h)).lt
  have hw2 : w.heap.size < w2.heap.size := HB2.out.lt
  have HW23 : Hid (w2.heap.size ≤ w3.heap.size) := hcp.fr.size
  have HOB : Hid (∀ k, ablk u.oa k → w2.heap.size ≤ k ∧ k < w3.heap.size) := fun k hk => own_blk hcp.own (by obtain ⟨b, hb, rfl⟩ := hk; rw [hb]; rfl)
  obtain ⟨gc, hgc⟩ : ∃ gc, gc = w3.heap.size := ⟨_, rfl⟩
  have HGC := Lib.hid hgc
  have HOW : Hid (Turned w2.heap.size (w3.alloc (.cells (txa u) 26)) (w3.alloc (.cells (txa u) 26)) t u 0 u.ops) := ⟨own_fr hcp.own HFW.out (fun _ _ h => h), hcp.ops.1, (fun _ _ h => by omega), Fr.refl _ _⟩
  clear c0 c1 c2 c3 c4 hcp hap hgc HCP
  unfold txv
  unfold txa at HFW HF3 HB3 HD3 HOW ⊢
  obtain ⟨d0, d1, d2, d3, d4⟩ := HD3.out.txn
  have hn60 : t.ops.length ≤ 60 := HS.out.o
  go_wp2_with fail
  rw [← HGC.out] at hwl HD3 ⊢
  generalize hW : w3.alloc _ = wc at *
  clear hW d0 d1 d2 d3 d4
  rw [HUL.out]
  go_loopw [16] (fun z wr => ∃ (k : Nat) (os : List Opn), k ≤ t.ops.length ∧ z = .int .i64 k ∧ Hid (Turned w2.heap.size wc wr t u k os)) (fun z _ => t.ops.length - (intOf z).toNat)
  case atStart => exact ⟨0, u.ops, by omega, rfl, HOW⟩
  case round =>
    obtain ⟨k, os, hk, rfl, HH⟩ := hrel
    have HBR : Hid (Bk wr w.heap.size 26 (txa t)) := HB3.out.fr HH.out.fr (fun h => by have := HOB.out _ h; omega)
    have HDR : Hid (Bk wr gc 26 (txa u)) := HD3.out.fr HH.out.fr (fun h => by have := HOB.out _ h; have := HGC.out; omega)
    by_cases hlt : k < t.ops.length
    · obtain ⟨m, hm⟩ : ∃ m, t.ops.length = k + m + 1 := ⟨t.ops.length - 1 - k, by omega⟩
      obtain ⟨x, hx⟩ : ∃ x, t.ops[m]? = some x := ⟨_, List.getElem?_eq_getElem (by omega)⟩
      have HFR : Hid (Fr NoBlk w wr) := HF3.out.step HH.out.fr (fun i hi e => by have := HOB.out _ e; omega)
      obtain ⟨b, o, hA, x0, x1, x2, x3⟩ := (HT.out.ops.nofr HFR.out).opn hx
      obtain ⟨g, hg⟩ : ∃ g, u.oa = some ⟨g, 0, none⟩ := by
        rcases HH.out.own.2 with ⟨_, h⟩ | ⟨g, c, cur, h, _⟩
        · have := HUL.out
          omega
        · injection h with h
          exact ⟨g, h⟩
      have q3 : wr.cell? ⟨w.heap.size, 3, none⟩ = some (.slice t.oa t.ops.length t.oc) := HBR.out.cell 3
      have d3 : wr.cell? ⟨gc, 3, none⟩ = some (.slice u.oa u.ops.length u.oc) := HDR.out.cell 3
      have ho := HH.out.own
      rw [hg] at ho
      have z0 := ho.frozenAt (k * 4)
      have z1 := ho.frozenAt (k * 4 + 1)
      have z2 := ho.frozenAt (k * 4 + 2)
      have z3 := ho.frozenAt (k * 4 + 3)
      have hul := HUL.out
      have hol := HH.out.len
      obtain ⟨y, hy⟩ : ∃ y, os[k]? = some y := ⟨_, List.getElem?_eq_getElem (by omega)⟩
      have y0 : wr.cell? ⟨g, k * 4, none⟩ = some (.int .i64 y.kind) := (ho.cellAt (k * 4) (by omega)).trans (opsc_get os k y hy 0 (by omega))
      have y1 : wr.cell? ⟨g, k * 4 + 1, none⟩ = some (.string (bstr y.key)) := (ho.cellAt (k * 4 + 1) (by omega)).trans (opsc_get os k y hy 1 (by omega))
      have y2 : wr.cell? ⟨g, k * 4 + 2, none⟩ = some (.slice y.val.1 y.val.2.2.length y.val.2.1) := (ho.cellAt (k * 4 + 2) (by omega)).trans (opsc_get os k y hy 2 (by omega))
      have y3 : wr.cell? ⟨g, k * 4 + 3, none⟩ = some (.int .i64 y.n) := (ho.cellAt (k * 4 + 3) (by omega)).trans (opsc_get os k y hy 3 (by omega))
      clear hul hol hy
      rw [hg, HUL.out] at d3
      rw [hA] at q3
      have HNX := Lib.hid (HH.out.next hg hlt (x := x) (by rw [show t.ops.length - 1 - k = m by omega]; exact hx))
      have hi0 : (0 : Int) ≤ (k : Int) := by omega
      have hi1 : (k : Int) < (t.ops.length : Int) := by omega
      have hj : ((t.ops.length : Int) - 1 - (k : Int)) = (m : Int) := by omega
      have hm0 : (0 : Int) ≤ (m : Int) := by omega
      have hm1 : (m : Int) < (t.ops.length : Int) := by omega
      have HM := Lib.hid hm
      clear ho hx hA hg hm
      unfold st at x1
      unfold sl at x2
      unfold st sl at HNX
      go_wp2_with fail
      go_region
      go_wp2_with fail
      go_roundw
      case rel => exact ⟨k + 1, os.set k x, by omega, by go_num, HNX.out.drew⟩
      case measure => simp [intOf]; omega
    · obtain rfl : k = t.ops.length := by omega
      have HFR : Hid (Fr NoBlk w wr) := HF3.out.step HH.out.fr (fun i hi e => by have := HOB.out _ e; omega)
      have HU : Hid (TxIn wr (turnT u os)) := Turned.fin HC.out HAP.out HFW.out (HT.out.nofr HFR.out) HH.out
      have HDT : Hid (Bk wr gc 26 (txa (turnT u os))) := by
        have h := HDR.out
        unfold txa turnT
        rw [HH.out.len, ← HUL.out]
        exact h
      have HCKC := Lib.hid fun W (hf : Fr NoBlk wr W) => check_any W (turnT u os) r (HU.out.nofr hf) (by have := HS.out.r; show u.reads.length ≤ 1000; rw [HC.out.reads]; omega) (by have := HS.out.w; show u.writes.length ≤ 1000; rw [HC.out.writes]; omega)
      have HCKT := Lib.hid fun W (hf : Fr NoBlk w W) => check_any W t r (HT.out.nofr hf) (by have := HS.out.r; omega) (by have := HS.out.w; omega)
      have HKYC := Lib.hid fun W (hf : Fr NoBlk wr W) => keys_any W (turnT u os) (HU.out.nofr hf) (by have := HS.out.r; show u.reads.length ≤ 1000; rw [HC.out.reads]; omega) (by have := HS.out.w; show u.writes.length ≤ 1000; rw [HC.out.writes]; omega)
      have HKYT := Lib.hid fun W (hf : Fr NoBlk w W) => keys_any W t (HT.out.nofr hf) (by have := HS.out.r; omega) (by have := HS.out.w; omega)
      rw [turned_right HC.out HH.out.len HH.out.like r] at HCKC
      generalize codeR (rightR t r) = cc at HCKC HCKT
      have HS0 := Lib.hid (sTwo HDT.out HBR.out)
      unfold txv txa at HCKC HKYC HCKT HKYT
      unfold turnT at HCKC HKYC
      go_wp2_with fail
      go_region_held3 (fun w' => w'.cell? ⟨gc, 0, none⟩ = some (.int .i64 u.kind) ∧ w'.cell? ⟨gc, 1, none⟩ = some (.slice u.ra u.reads.length u.rc) ∧ w'.cell? ⟨gc, 2, none⟩ = some (.slice u.wa u.writes.length u.wc) ∧ w'.cell? ⟨gc, 3, none⟩ = some (.slice u.oa os.length u.oc) ∧ w'.cell? ⟨gc, 4, none⟩ = some (.int .i64 u.to) ∧ w'.cell? ⟨w.heap.size, 0, none⟩ = some (.int .i64 t.kind) ∧ w'.cell? ⟨w.heap.size, 1, none⟩ = some (.slice t.ra t.reads.length t.rc) ∧ w'.cell? ⟨w.heap.size, 2, none⟩ = some (.slice t.wa t.writes.length t.wc) ∧ w'.cell? ⟨w.heap.size, 3, none⟩ = some (.slice t.oa t.ops.length t.oc) ∧ w'.cell? ⟨w.heap.size, 4, none⟩ = some (.int .i64 t.to))
        ((first | exact hS9 | exact hS8 | exact hS7b | exact hS7 | exact HS0.out))
        (first
          | (go_at_call_of 13 (Value.agg #[.int .i64 u.kind, .slice u.ra u.reads.length u.rc, .slice u.wa u.writes.length u.wc, .slice u.oa os.length u.oc, .int .i64 u.to]); refine (HCKC.out _ ?_).mono ?_; exact ((Fr.refl _ _).drew); rintro e w7 ⟨rfl, hf7⟩; have HF7 := Lib.hid (((Fr.refl NoBlk _).drew).trans hf7); have hS7 := sTwo (HDT.out.fr HF7.out (fun h => h)) (HBR.out.fr HF7.out (fun h => h)); clear hf7)
          | (go_at_call_of 13 (Value.agg #[.int .i64 t.kind, .slice t.ra t.reads.length t.rc, .slice t.wa t.writes.length t.wc, .slice t.oa t.ops.length t.oc, .int .i64 t.to]); refine (HCKT.out _ ?_).mono ?_; exact HFR.out.trans HF7.out; rintro e w7b ⟨rfl, hf7b⟩; have HF7b := Lib.hid (HF7.out.trans hf7b); have hS7b := sTwo (HDT.out.fr HF7b.out (fun h => h)) (HBR.out.fr HF7b.out (fun h => h)); clear hf7b)
          | (go_at_call_of 17 (Value.agg #[.int .i64 u.kind, .slice u.ra u.reads.length u.rc, .slice u.wa u.writes.length u.wc, .slice u.oa os.length u.oc, .int .i64 u.to]); refine (HKYC.out _ ?_).mono ?_; exact HF7b.out; rintro e w8 ⟨A8, c8, ks8, rfl, hk8, ha8⟩; have HK8 := Lib.hid hk8; have HA8 := Lib.hid ha8; have HF8 := Lib.hid (HF7b.out.trans ha8.fr); have hS8 := sTwo (HDT.out.fr HF8.out (fun h => h)) (HBR.out.fr HF8.out (fun h => h)); clear hk8 ha8)
          | (go_at_call_of 17 (Value.agg #[.int .i64 t.kind, .slice t.ra t.reads.length t.rc, .slice t.wa t.writes.length t.wc, .slice t.oa t.ops.length t.oc, .int .i64 t.to]); refine (HKYT.out _ ?_).mono ?_; exact HFR.out.trans HF8.out; rintro e w9 ⟨A9, c9, ks9, rfl, hk9, ha9⟩; have HK9 := Lib.hid hk9; have HA9 := Lib.hid ha9; have HF9 := Lib.hid (HF8.out.trans ha9.fr); have hS9 := sTwo (HDT.out.fr HF9.out (fun h => h)) (HBR.out.fr HF9.out (fun h => h)); clear hk9 ha9)
          | (go_at_call 16; refine (sameTexts_any _ A8 A9 _ _ c8 c9 ks8 ks9 rfl rfl (HA8.out.rd.nofr HA9.out.fr) HA9.out.rd (Nat.le_trans HA8.out.le HA8.out.max) (Nat.le_trans HA9.out.le HA9.out.max)).mono ?_; rintro e w10 ⟨rfl, hf10⟩; have HF10 := Lib.hid (HF9.out.trans hf10); have hS9 := sTwo (HDT.out.fr HF10.out (fun h => h)) (HBR.out.fr HF10.out (fun h => h)); clear hf10))
      have HEQ : Hid ((ks8 == ks9) = true) := by
        show _ = _
        rw [beq_iff_eq]
        refine IsKeys.unique (rs := t.reads) (ws := t.writes) ?_ HK9.out
        have h := HK8.out
        simp only [HC.out.reads, HC.out.writes] at h
        exact h
      rw [HEQ.out]
      go_wp2_with fail
      go_ret
      exact ⟨rfl, HFR.out.trans HF10.out⟩

theorem paramsOk : ∀ t ∈ Try.f8.params.toList, Try.prog.readableRec t = true ∧ t < Try.prog.types.size := fun t ht => by
  have h := List.all_eq_true.1 (show (Try.f8.params.toList.all fun t => Try.prog.readableRec t && decide (t < Try.prog.types.size)) = true by kernel_rfl) t ht
  simpa using h

set_option maxRecDepth 100000 in
theorem lifted (os : Os) (started : os.Started) (H : Type) (enc : TypeId × Value → H) :
    ReturnsInHanded {} Try.checked os 8 .any (Rows.progOrderSpec.pre6 enc Try.prog Try.f8 Rows.progOrderRow.domain false) (Rows.progOrderSpec.post enc Try.prog Try.f8 false true false false) := by
  refine returnsInHanded_of_change (C := Try.checked) own started (by kernel_rfl) Try.func8
    (ChangeSpec.witness6 (enc := enc) (C := Try.checked) false ⟨#[], #[.agg #[.int .i64 0, .slice none 0 0, .slice none 0 0, .slice none 0 0, .int .i64 0], .int .i64 0], []⟩ 8 (by kernel_rfl) (by kernel_rfl) (by kernel_rfl) (by kernel_rfl)) ?_
  intro W base args ds gs before hval0 hW _ _
  have hval : ∀ (j : Nat) t v, Try.f8.params[j]? = some t → args[j]? = some v → Value.okWide Try.prog W .any base t v := hval0
  have hW' := hW
  obtain ⟨p, q, hA0, hV, rfl, _, _⟩ := hW
  have hA : DataW.TrodAll enc Try.prog W 0 (fun _ => true) true Try.f8.params.toList args.toList ds p := hA0
  rw [Try.params8] at hA hval
  obtain ⟨v0, vs0, d0, ds0, p0, q0, hargs, rfl, rfl, h0, r0⟩ := trodAll_cons hA
  obtain ⟨v1, vs1, d1, ds1, p1, q1, rfl, rfl, rfl, h1, r1⟩ := trodAll_cons r0
  obtain ⟨rfl, rfl, rfl⟩ := trodAll_nil r1
  obtain rfl : args = #[v0, v1] := by cases args; simp_all
  obtain ⟨rfl, rfl⟩ := trodVars_none hV
  obtain ⟨t, rfl, ht⟩ := open_txn (hval 0 _ v0 rfl rfl) h0
  obtain ⟨r, rfl, rfl, rfl, wr⟩ := open_int Try.underlying3 (hval 1 _ v1 rfl rfl) h1
  have walk := walk W t r ht
  clear hA0 hval0
  refine walk.mono fun e W' ⟨he, hf⟩ => ?_
  subst he
  exact ⟨_, rfl, law_post laidOut paramsOk rfl rfl Try.underlying4 hW' rfl rfl rfl hf⟩

theorem said : Rows.ProgOrderSaid :=
  OpenClaim.holds_of_wide 8 Try.f8 rfl rfl rfl rfl rfl rfl rfl ⟨rfl, rfl, rfl, rfl, rfl⟩ rfl rfl rfl rfl rfl (by kernel_rfl) Try.func8 (by kernel_rfl)
    (of_decide_eq_true (by kernel_rfl)) (by unfold Func.isWrapper; first | (rw [if_pos (by decide +kernel)]; kernel_rfl) | (rw [if_neg (by decide +kernel)]; exact ⟨rfl, rfl⟩))
    (fun os started H enc _ => lifted os started H enc)
end Go.Proofs.Ytkohinhbmnoajaa.progOrder
