/- ProgFewer is true: a right transaction without one of its operations is right, and with more regions, too. No condition. -/
import Derived.Test.YtkohinhbmnoajaaLawp
import Derived.Test.YtkohinhbmnoajaaSpeaks5
import Derived.Test.YtkohinhbmnoajaaOpenT
import Derived.Test.YtkohinhbmnoajaaFewerP
import Derived.Deep.RegionWith
namespace Go.Proofs.Ytkohinhbmnoajaa.progFewer
open Go.ChangeShapes Go.WideShapes Go.ChangeAt Go.RowKit

theorem sTwo {w' : World} {g g' : Nat} {T : TypeId} {t u : Tx} (h1 : Bk w' g T (txa u)) (h2 : Bk w' g' T (txa t)) :
    w'.cell? ⟨g, 0, none⟩ = some (.int .i64 u.kind) ∧ w'.cell? ⟨g, 1, none⟩ = some (.slice u.ra u.reads.length u.rc) ∧ w'.cell? ⟨g, 2, none⟩ = some (.slice u.wa u.writes.length u.wc) ∧ w'.cell? ⟨g, 3, none⟩ = some (.slice u.oa u.ops.length u.oc) ∧ w'.cell? ⟨g, 4, none⟩ = some (.int .i64 u.to) ∧
    w'.cell? ⟨g', 0, none⟩ = some (.int .i64 t.kind) ∧ w'.cell? ⟨g', 1, none⟩ = some (.slice t.ra t.reads.length t.rc) ∧ w'.cell? ⟨g', 2, none⟩ = some (.slice t.wa t.writes.length t.wc) ∧ w'.cell? ⟨g', 3, none⟩ = some (.slice t.oa t.ops.length t.oc) ∧ w'.cell? ⟨g', 4, none⟩ = some (.int .i64 t.to) :=
  ⟨h1.cell 0, h1.cell 1, h1.cell 2, h1.cell 3, h1.cell 4, h2.cell 0, h2.cell 1, h2.cell 2, h2.cell 3, h2.cell 4⟩

set_option maxRecDepth 100000 in
set_option maxHeartbeats 4000000 in
theorem walk (w : World) (t : Tx) (r k0 : Int) (hwk : (Lit.int .i64 k0).wf = true) (ht : TxIn w t) : Calls Try.prog 7 #[txv t, .int .i64 r, .int .i64 k0] w fun e w' => e = .returned (.bool true) ∧ Fr NoBlk w w' := by
  obtain ⟨l0, hl, hl0, hl1, hl2⟩ := info_parts opInfo
  have HT := Lib.hid ht
  have HWK := Lib.hid hwk
  have HF0 : Hid (Fr NoBlk w (w.alloc (.cells (txa t) 26))) := (Fr.refl _ _).alloc _
  have HB0 := Lib.hid (Bk.new w 26 (txa t))
  clear ht hwk
  unfold txv
  unfold txa at HF0
  unfold txa
  go_enter Try.func7, Try.ntmps7
  go_wp2_with fail
  refine (speaks_any _).mono ?_
  rintro e w1 ⟨rfl, hf1⟩
  have HF1 := Lib.hid (HF0.out.trans hf1)
  have HB1 := Lib.hid (HB0.out.fr hf1 (fun h => h))
  obtain ⟨c0, c1, c2, c3, c4⟩ := HB1.out.txn
  clear hf1 HF0 HB0
  go_wp2_with fail
  refine (great_any w1 t (HT.out.nofr HF1.out)).mono ?_
  rintro e w2 ⟨⟨bb, rfl, hsm⟩, hf2⟩
  have HF2 := Lib.hid (HF1.out.trans hf2)
  have HB2 := Lib.hid (HB1.out.fr hf2 (fun h => h))
  have HSM := Lib.hid hsm
  clear c0 c1 c2 c3 c4 hf2 HB1 HF1 hsm
  cases bb
  rotate_left
  · go_wp2_with fail
    go_ret
    exact ⟨rfl, HF2.out⟩
  have HS := Lib.hid (HSM.out rfl)
  obtain ⟨c0, c1, c2, c3, c4⟩ := HB2.out.txn
  have hck := check_any w2 t r (HT.out.nofr HF2.out) (by have := HS.out.r; omega) (by have := HS.out.w; omega)
  have HR : Hid (rightR t r = true ∨ rightR t r = false) := by cases rightR t r <;> simp [Hid]
  rcases HR.out with hr | hr
  rotate_left
  · rw [hr] at hck
    have HCK := Lib.hid hck
    clear hck hr HR HSM
    unfold txv txa at HCK
    go_wp2_with fail
    refine HCK.out.mono ?_
    rintro e w3 ⟨rfl, hf3⟩
    have HF3 := Lib.hid (HF2.out.trans hf3)
    clear hf3 c0 c1 c2 c3 c4
    unfold codeR
    simp only [Bool.false_eq_true, if_false]
    go_wp2_with fail
    go_ret
    exact ⟨rfl, HF3.out⟩
  rw [hr] at hck
  have HRT := Lib.hid hr
  have HCK := Lib.hid hck
  clear hck hr HR HSM
  unfold txv txa at HCK
  go_wp2_with fail
  refine HCK.out.mono ?_
  rintro e w3 ⟨rfl, hf3⟩
  have HF3 := Lib.hid (HF2.out.trans hf3)
  have HB3 := Lib.hid (HB2.out.fr hf3 (fun h => h))
  clear hf3 c0 c1 c2 c3 c4 HB2 HF2 HCK
  obtain ⟨c0, c1, c2, c3, c4⟩ := HB3.out.txn
  unfold codeR
  simp only [if_true]
  have HR1 : Hid (1 ≤ r ∧ r ≤ 3) := ⟨(right_parts HRT.out).1, (right_parts HRT.out).2.1⟩
  have hr1 : (1 : Int) ≤ r := HR1.out.1
  have hr3 : r ≤ 3 := HR1.out.2
  clear c0 c1 c2 c3 c4
  go_wp2_with fail
  go_loopw [7] (fun z wr => ∃ n : Int, r ≤ n ∧ n ≤ 4 ∧ z = .int .i64 n ∧ Hid (Fr NoBlk w3 wr)) (fun z _ => (4 - intOf z).toNat)
  case atStart => exact ⟨r, by omega, by omega, rfl, Fr.refl _ _⟩
  case round =>
    obtain ⟨n, hn1, hn4, rfl, HFL⟩ := hrel
    have HBR : Hid (Bk wr w.heap.size 26 (txa t)) := HB3.out.fr HFL.out (fun h => h)
    obtain ⟨c0, c1, c2, c3, c4⟩ := HBR.out.txn
    have HFR : Hid (Fr NoBlk w wr) := HF3.out.trans HFL.out
    by_cases hn : n ≤ 3
    · have hck := check_any wr t n (HT.out.nofr HFR.out) (by have := HS.out.r; omega) (by have := HS.out.w; omega)
      rw [right_more HRT.out hn1 hn] at hck
      have HCKN := Lib.hid hck
      clear hck
      unfold txv txa at HCKN
      go_wp2_with fail
      refine HCKN.out.mono ?_
      rintro e w5 ⟨rfl, hf5⟩
      have HFL5 := Lib.hid (HFL.out.trans hf5)
      clear hf5 c0 c1 c2 c3 c4
      unfold codeR
      simp only [if_true]
      go_wp2_with fail
      go_roundw
      case rel => exact ⟨n + 1, by omega, by omega, by go_num, HFL5⟩
      case measure => simp [intOf]; omega
    · by_cases ho0 : t.ops.length = 0
      · have g0 : ((t.ops.length : Int) == 0) = true := by rw [beq_iff_eq]; omega
        rw [ho0] at c3
        clear g0
        go_wp2_with fail
        go_ret
        exact ⟨rfl, HFR.out⟩
      · have hop : 0 < t.ops.length := by omega
        have g0 : ((t.ops.length : Int) == 0) = false := by rw [beq_eq_false_iff_ne]; omega
        have hcp := copy_anyA wr t (HT.out.nofr HFR.out) HS.out
        have HCP := Lib.hid hcp
        clear hcp
        unfold txv txa at HCP
        go_wp2_with fail
        refine HCP.out.mono ?_
        rintro e w6 ⟨u, rfl, hcp, hap⟩
        have HC := Lib.hid hcp
        have HAP := Lib.hid hap
        have HFW : Hid (Fr NoBlk w6 (w6.alloc (.cells (txa u) 26))) := (Fr.refl _ _).alloc _
        have HF7 := Lib.hid ((HFR.out.trans hcp.fr).trans HFW.out)
        have HB7 := Lib.hid ((HBR.out.fr hcp.fr (fun h => h)).fr HFW.out (fun h => h))
        have HD7 := Lib.hid (Bk.new w6 26 (txa u))
        have HUL : Hid (u.ops.length = t.ops.length) := hcp.ops.1
        have hwl : w.heap.size < w6.heap.size := (HBR.out.fr hcp.fr (fun h => h)).lt
        obtain ⟨gc, hgc⟩ : ∃ gc, gc = w6.heap.size := ⟨_, rfl⟩
        have HGC := Lib.hid hgc
        clear c0 c1 c2 c3 c4 hcp hap hgc HCP
        unfold txv
        unfold txa at HFW HF7 HB7 HD7 ⊢
        obtain ⟨d0, d1, d2, d3, d4⟩ := HD7.out.txn
        obtain ⟨q, hq, hqb⟩ : ∃ q : Nat, bits BinOp.and .i64 k0 1023 = (q : Int) ∧ q ≤ 1023 := low_ten k0
        have hup : 0 < u.ops.length := by have := HUL.out; omega
        have hun : ¬ u.ops.length = 0 := by omega
        have hui : ¬ ((u.ops.length : Int) = 0) := by omega
        go_wp2_with fail
        obtain ⟨p, hp, hpl⟩ : ∃ p : Nat, (q : Int) % (u.ops.length : Int) = (p : Int) ∧ p < u.ops.length := ⟨q % u.ops.length, by omega, Nat.mod_lt _ hup⟩
        rw [hp]
        obtain ⟨g, hg⟩ : ∃ g, u.oa = some ⟨g, 0, none⟩ := by
          rcases HC.out.own.2 with ⟨_, h⟩ | ⟨g, c, cur, h, _⟩
          · omega
          · injection h with h
            exact ⟨g, h⟩
        have hgg : g < w6.heap.size := (own_blk HC.out.own (k := g) (by rw [hg]; rfl)).2
        have HOP := Lib.hid hop
        have HU6 := Lib.hid HC.out.inn
        have hf3 := HD7.out.free 3
        rw [← HGC.out] at hwl HD7 d3 hf3 hgg ⊢
        have HGG := Lib.hid hgg
        clear hgg
        generalize hW : w6.alloc _ = wq at *
        have HRO : Hid (Rd wq (some ⟨g, 0, none⟩) (opsc u.ops)) := by
          have h := HC.out.inn.ops.nofr HFW.out
          rw [hg] at h
          exact h
        rw [hg] at d3
        clear hW hg hp hq d0 d1 d2 d4
        obtain ⟨nn, hnn⟩ : ∃ nn, nn = u.ops.length := ⟨_, rfl⟩
        obtain ⟨oc, hoc⟩ : ∃ oc, oc = u.oc := ⟨_, rfl⟩
        have hcap : nn ≤ oc := by rw [hnn, hoc]; exact HC.out.inn.ol.1
        have hn60 : nn ≤ 60 := by rw [hnn, HUL.out]; exact HS.out.o
        have hpn : p < nn := by rw [hnn]; exact hpl
        rw [← hnn, ← hoc] at d3
        have HNN := Lib.hid hnn
        have HOC := Lib.hid hoc
        have hb1 : (0 : Int) ≤ (p : Int) := by omega
        have hb2 : (p : Int) ≤ (oc : Int) := by omega
        have hb3 : (p : Int) + 1 ≤ (nn : Int) := by omega
        have hb4 : (nn : Int) ≤ (oc : Int) := by omega
        have hb5 : (0 : Int) ≤ (p : Int) + 1 := by omega
        have hb6 : IntKind.i64.wrap ((p : Int) + 1) = (p : Int) + 1 := IntWalk.i64_in _ (by omega)
        clear hnn hoc hup hun hui hpl g0 ho0 hop hcap
        have HL1 : Hid ((opsc (u.ops.take p)).length = p * 4) := by show _ = _; rw [opsc_len, List.length_take, ← HNN.out, Nat.min_eq_left (by omega)]
        have HL2 : Hid ((opsc (u.ops.drop (p + 1))).length = (nn - (p + 1)) * 4) := by show _ = _; rw [opsc_len, List.length_drop, ← HNN.out]
        go_cut [9] (fun s wx => s = .int .i64 p ∧ ∃ (A : Option Addr) (c : Nat) (os : List Opn), Hid (Fewed wq wx gc u A c os))
        case first =>
          by_cases hce : oc = p + 1
          · obtain rfl : nn = oc := by omega
            have hb7 : (p : Int) + 1 = (nn : Int) := by omega
            have hb8 : IntKind.i64.wrap ((p : Int) + 1) = (nn : Int) := by rw [hb6]; omega
            have hb9 : IntKind.i64.wrap (nn : Int) = (nn : Int) := IntWalk.i64_in _ (by omega)
            clear hb6 hce
            have HL3 : Hid ((opsc (u.ops.drop (p + 1))).length = 0 * 4) := by have := HL2.out; show _ = _; omega
            go_region_law
              (first
              | (refine step_appF rfl (.tmp 45) (.tmp 50) 24 rfl 39 l0 _ 4 56 Try.underlying24 hl hl0 hl1 hl2 rfl (by decide) ⟨g, 0, none⟩ p (opsc (u.ops.take p)) rfl HL1.out ((HRO.out.fewer p).nofr (by first | exact Fr.refl _ _ | exact (Fr.refl _ _).drew)) ⟨g, 0, none⟩ 0 0 (opsc (u.ops.drop (p + 1))) (by simp [Act.eval, Act.put]) HL3.out (fun h => by have := HL3.out; omega) (opsc_one _) (by unfold maxLen; omega) (by omega) ?_
                 intro A9 c9 w9 hgf
                 have HF9 : Hid (Fr NoBlk wq w9) := (by first | exact hgf.fr | exact ((Fr.refl NoBlk wq).drew).trans hgf.fr)
                 have HGF := Lib.hid hgf
                 have d9 : w9.cell? ⟨gc, 3, none⟩ = some (.slice (some ⟨g, 0, none⟩) nn nn) := (HF9.out.cell (p := ⟨gc, 3, none⟩) HD7.out.lt (fun h => h)).trans d3
                 have f9 : w9.frozen? ⟨gc, 3, none⟩ = false := (HF9.out.frozen (p := ⟨gc, 3, none⟩) HD7.out.lt (fun h => h)).trans hf3
                 clear hgf))
            all_goals
              go_wp2_with fail
              go_meet
              clear d9 f9
              refine ⟨rfl, A9, c9, u.ops.take p ++ u.ops.drop (p + 1), ?_⟩
              have HZ := fewed_any (W := _) HGC.out HGG.out HU6.out HFW.out HD7.out (by rfl) HGF.out HF9.out (by rw [List.length_append, List.length_take, List.length_drop, ← HNN.out]; omega)
              first | exact HZ | exact HZ.drew
          · have hb7 : (p : Int) + 1 < (oc : Int) := by omega
            have hb8 : ¬ ((oc : Int) = (p : Int) + 1) := by omega
            have hb9 : p + 1 < oc := by omega
            clear hce
            go_region_law
              (first
              | (refine step_appF rfl (.tmp 45) (.tmp 50) 24 rfl 39 l0 _ 4 56 Try.underlying24 hl hl0 hl1 hl2 rfl (by decide) ⟨g, 0, none⟩ p (opsc (u.ops.take p)) rfl HL1.out ((HRO.out.fewer p).nofr (by first | exact Fr.refl _ _ | exact (Fr.refl _ _).drew)) ⟨g, (p + 1) * 4, none⟩ (oc - (p + 1)) (nn - (p + 1)) (opsc (u.ops.drop (p + 1))) (by simp [Act.eval, Act.put]; omega) HL2.out ((HRO.out.later (p + 1) (by rw [← HNN.out]; omega)).nofr (by first | exact Fr.refl _ _ | exact (Fr.refl _ _).drew)) (opsc_one _) (by unfold maxLen; omega) (by omega) ?_
                 intro A9 c9 w9 hgf
                 have HF9 : Hid (Fr NoBlk wq w9) := (by first | exact hgf.fr | exact ((Fr.refl NoBlk wq).drew).trans hgf.fr)
                 have HGF := Lib.hid hgf
                 have d9 : w9.cell? ⟨gc, 3, none⟩ = some (.slice (some ⟨g, 0, none⟩) nn oc) := (HF9.out.cell (p := ⟨gc, 3, none⟩) HD7.out.lt (fun h => h)).trans d3
                 have f9 : w9.frozen? ⟨gc, 3, none⟩ = false := (HF9.out.frozen (p := ⟨gc, 3, none⟩) HD7.out.lt (fun h => h)).trans hf3
                 clear hgf))
            all_goals
              go_wp2_with fail
              go_meet
              clear d9 f9
              refine ⟨rfl, A9, c9, u.ops.take p ++ u.ops.drop (p + 1), ?_⟩
              have HZ := fewed_any (W := _) HGC.out HGG.out HU6.out HFW.out HD7.out (by rfl) HGF.out HF9.out (by rw [List.length_append, List.length_take, List.length_drop, ← HNN.out]; omega)
              first | exact HZ | exact HZ.drew
        case rest =>
          obtain ⟨rfl, A, c, os, HH⟩ := hcut
          clear d3 hf3
          have HBX : Hid (Bk wc w.heap.size 26 (txa t)) := HB7.out.fr HH.out.fr (fun e => by omega)
          have HFZ : Hid (Fr NoBlk w wc) := HF7.out.step HH.out.fr (fun i hi e => by omega)
          have HS0 := Lib.hid (sTwo HH.out.bk HBX.out)
          have HCKC := Lib.hid fun W (hf : Fr NoBlk wc W) => check_any W (fewerT u A c os) r (HH.out.inn.nofr hf) (by have := HS.out.r; show u.reads.length ≤ 1000; rw [HC.out.reads]; omega) (by have := HS.out.w; show u.writes.length ≤ 1000; rw [HC.out.writes]; omega)
          rw [fewer_right HC.out HH.out.sub HH.out.len HOP.out HRT.out] at HCKC
          have HKYT := Lib.hid fun W (hf : Fr NoBlk w W) => keys_any W t (HT.out.nofr hf) (by have := HS.out.r; omega) (by have := HS.out.w; omega)
          have hcr : codeR true = 0 := rfl
          have hrl := HS.out.r
          have hwl2 := HS.out.w
          have hwr : IntKind.i64.wrap ((t.reads.length : Int) + (t.writes.length : Int)) = (t.reads.length : Int) + (t.writes.length : Int) := IntWalk.i64_in _ (by omega)
          unfold txv txa fewerT at HCKC
          unfold txv txa at HKYT
          go_wp2_with fail
          go_region_held3 (fun w' => w'.cell? ⟨gc, 0, none⟩ = some (.int .i64 u.kind) ∧ w'.cell? ⟨gc, 1, none⟩ = some (.slice u.ra u.reads.length u.rc) ∧ w'.cell? ⟨gc, 2, none⟩ = some (.slice u.wa u.writes.length u.wc) ∧ w'.cell? ⟨gc, 3, none⟩ = some (.slice A os.length c) ∧ w'.cell? ⟨gc, 4, none⟩ = some (.int .i64 u.to) ∧ w'.cell? ⟨w.heap.size, 0, none⟩ = some (.int .i64 t.kind) ∧ w'.cell? ⟨w.heap.size, 1, none⟩ = some (.slice t.ra t.reads.length t.rc) ∧ w'.cell? ⟨w.heap.size, 2, none⟩ = some (.slice t.wa t.writes.length t.wc) ∧ w'.cell? ⟨w.heap.size, 3, none⟩ = some (.slice t.oa t.ops.length t.oc) ∧ w'.cell? ⟨w.heap.size, 4, none⟩ = some (.int .i64 t.to))
            ((first | exact hS9 | exact hS7 | exact HS0.out))
            (first
              | (go_at_call 13; refine (HCKC.out _ ?_).mono ?_; exact ((Fr.refl _ _).drew); rintro e w7 ⟨rfl, hf7⟩; have HF7' := Lib.hid (((Fr.refl NoBlk _).drew).trans hf7); have hS7 := sTwo (HH.out.bk.fr HF7'.out (fun h => h)) (HBX.out.fr HF7'.out (fun h => h)); clear hf7)
              | (go_at_call 17; refine (HKYT.out _ ?_).mono ?_; exact HFZ.out.trans HF7'.out; rintro e w9 ⟨A9, c9, ks9, rfl, hk9, ha9⟩; have hkl : ((ks9.length : Nat) : Int) = (t.reads.length : Int) + (t.writes.length : Int) := (by obtain ⟨_, _, _, a4, a5, a6, _⟩ := right_parts HRT.out; have := keys_len a4 a5 a6 hk9; omega); have HF9 := Lib.hid (HF7'.out.trans ha9.fr); have hS9 := sTwo (HH.out.bk.fr HF9.out (fun h => h)) (HBX.out.fr HF9.out (fun h => h)); clear hk9 ha9))
          all_goals
            go_wp2_with fail
            go_ret
            exact ⟨by simp, HFZ.out.trans HF9.out⟩

theorem paramsOk : ∀ t ∈ Try.f7.params.toList, Try.prog.readableRec t = true ∧ t < Try.prog.types.size := fun t ht => by
  have h := List.all_eq_true.1 (show (Try.f7.params.toList.all fun t => Try.prog.readableRec t && decide (t < Try.prog.types.size)) = true by kernel_rfl) t ht
  simpa using h

set_option maxRecDepth 100000 in
theorem lifted (os : Os) (started : os.Started) (H : Type) (enc : TypeId × Value → H) :
    ReturnsInHanded {} Try.checked os 7 .any (Rows.progFewerSpec.pre6 enc Try.prog Try.f7 Rows.progFewerRow.domain false) (Rows.progFewerSpec.post enc Try.prog Try.f7 false true false false) := by
  refine returnsInHanded_of_change (C := Try.checked) own started (by kernel_rfl) Try.func7
    (ChangeSpec.witness6 (enc := enc) (C := Try.checked) false ⟨#[], #[.agg #[.int .i64 0, .slice none 0 0, .slice none 0 0, .slice none 0 0, .int .i64 0], .int .i64 0, .int .i64 0], []⟩ 8 (by kernel_rfl) (by kernel_rfl) (by kernel_rfl) (by kernel_rfl)) ?_
  intro W base args ds gs before hval0 hW _ _
  have hval : ∀ (j : Nat) t v, Try.f7.params[j]? = some t → args[j]? = some v → Value.okWide Try.prog W .any base t v := hval0
  have hW' := hW
  obtain ⟨p, q, hA0, hV, rfl, _, _⟩ := hW
  have hA : DataW.TrodAll enc Try.prog W 0 (fun _ => true) true Try.f7.params.toList args.toList ds p := hA0
  rw [Try.params7] at hA hval
  obtain ⟨v0, vs0, d0, ds0, p0, q0, hargs, rfl, rfl, h0, r0⟩ := trodAll_cons hA
  obtain ⟨v1, vs1, d1, ds1, p1, q1, rfl, rfl, rfl, h1, r1⟩ := trodAll_cons r0
  obtain ⟨v2, vs2, d2, ds2, p2, q2, rfl, rfl, rfl, h2, r2⟩ := trodAll_cons r1
  obtain ⟨rfl, rfl, rfl⟩ := trodAll_nil r2
  obtain rfl : args = #[v0, v1, v2] := by cases args; simp_all
  obtain ⟨rfl, rfl⟩ := trodVars_none hV
  obtain ⟨t, rfl, ht⟩ := open_txn (hval 0 _ v0 rfl rfl) h0
  obtain ⟨r, rfl, rfl, rfl, wr⟩ := open_int Try.underlying3 (hval 1 _ v1 rfl rfl) h1
  obtain ⟨k, rfl, rfl, rfl, wk⟩ := open_int Try.underlying3 (hval 2 _ v2 rfl rfl) h2
  have walk := walk W t r k wk ht
  clear hA0 hval0
  refine walk.mono fun e W' ⟨he, hf⟩ => ?_
  subst he
  exact ⟨_, rfl, law_post laidOut paramsOk rfl rfl Try.underlying4 hW' rfl rfl rfl hf⟩

theorem said : Rows.ProgFewerSaid :=
  OpenClaim.holds_of_wide 7 Try.f7 rfl rfl rfl rfl rfl rfl rfl ⟨rfl, rfl, rfl, rfl, rfl⟩ rfl rfl rfl rfl rfl (by kernel_rfl) Try.func7 (by kernel_rfl)
    (of_decide_eq_true (by kernel_rfl)) (by unfold Func.isWrapper; first | (rw [if_pos (by decide +kernel)]; kernel_rfl) | (rw [if_neg (by decide +kernel)]; exact ⟨rfl, rfl⟩))
    (fun os started H enc _ => lifted os started H enc)
end Go.Proofs.Ytkohinhbmnoajaa.progFewer
