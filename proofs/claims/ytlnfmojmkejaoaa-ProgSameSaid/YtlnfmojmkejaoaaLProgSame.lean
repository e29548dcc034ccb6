/- ProgSame is true: whether two transactions are one is told exactly; a copy is one with what it was made of, in memory of its own. No condition. -/
import Derived.Test.YtlnfmojmkejaoaaLawp
import Derived.Test.YtlnfmojmkejaoaaSpeaks5
import Derived.Test.YtlnfmojmkejaoaaOpenT
import Derived.Test.YtlnfmojmkejaoaaCopyA
import Derived.Test.YtlnfmojmkejaoaaPCopy
import Derived.Test.YtlnfmojmkejaoaaSpoilL
namespace Go.Proofs.Ytlnfmojmkejaoaa.progSame
open Go.ChangeShapes Go.WideShapes Go.ChangeAt Go.RowKit

set_option maxRecDepth 100000 in
set_option maxHeartbeats 8000000 in
theorem walk (w : World) (a b : Tx) (ha : TxIn w a) (hb : TxIn w b) : Calls Try.prog 6 #[txv a, txv b] w fun e w' => e = .returned (.bool true) ∧ Fr NoBlk w w' := by
  have HA := Lib.hid ha
  have HB := Lib.hid hb
  have HF0 : Hid (Fr NoBlk w ((w.alloc (.cells (txa a) 26)).alloc (.cells (txa b) 26))) := ((Fr.refl _ _).alloc _).alloc _
  have BA0 := Lib.hid ((Bk.new w 26 (txa a)).alloc (.cells (txa b) 26))
  have BB0 := Lib.hid (Bk.new2 w (.cells (txa a) 26) 26 (txa b))
  clear ha hb
  unfold txv
  unfold txa at HF0
  unfold txa
  go_enter Try.func6, Try.ntmps6
  go_wp2_with fail
  refine (speaks_any _).mono ?_
  rintro e w1 ⟨rfl, hf1⟩
  have HF1 := Lib.hid (HF0.out.trans hf1)
  have BA1 := Lib.hid (BA0.out.fr hf1 (fun h => h))
  have BB1 := Lib.hid (BB0.out.fr hf1 (fun h => h))
  clear hf1 HF0 BA0 BB0
  obtain ⟨a0, a1, a2, a3, a4⟩ := BA1.out.txn'
  go_wp2_with fail
  refine (great_any w1 a (HA.out.nofr HF1.out)).mono ?_
  rintro e w2 ⟨⟨bb, rfl, hsm⟩, hf2⟩
  have HF2 := Lib.hid (HF1.out.trans hf2)
  have BA2 := Lib.hid (BA1.out.fr hf2 (fun h => h))
  have BB2 := Lib.hid (BB1.out.fr hf2 (fun h => h))
  have HSM := Lib.hid hsm
  clear hf2 hsm BA1 BB1 HF1 a0 a1 a2 a3 a4
  cases bb
  rotate_left
  · go_wp2_with fail
    go_ret
    exact ⟨rfl, HF2.out⟩
  have SA := Lib.hid (HSM.out rfl)
  clear HSM
  obtain ⟨b0, b1, b2, b3, b4⟩ := BB2.out.txn'
  go_wp2_with fail
  refine (great_any w2 b (HB.out.nofr HF2.out)).mono ?_
  rintro e w3 ⟨⟨bb, rfl, hsm⟩, hf3⟩
  have HF3 := Lib.hid (HF2.out.trans hf3)
  have BA3 := Lib.hid (BA2.out.fr hf3 (fun h => h))
  have BB3 := Lib.hid (BB2.out.fr hf3 (fun h => h))
  have HSM := Lib.hid hsm
  clear hf3 hsm BA2 BB2 HF2 b0 b1 b2 b3 b4
  cases bb
  rotate_left
  · go_wp2_with fail
    go_ret
    exact ⟨rfl, HF3.out⟩
  have SB := Lib.hid (HSM.out rfl)
  clear HSM
  obtain ⟨a0, a1, a2, a3, a4⟩ := BA3.out.txn'
  go_wp2_with fail
  refine (copy_anyA w3 a (HA.out.nofr HF3.out) SA.out).mono ?_
  rintro e w4 ⟨u, rfl, hcp, _⟩
  have HC := Lib.hid hcp
  have hW5 := (Fr.refl NoBlk w4).alloc (.cells (txa u) 26)
  have hF45 := hcp.fr.trans hW5
  have HF5 := Lib.hid (HF3.out.trans hF45)
  have BA5 := Lib.hid (BA3.out.fr hF45 (fun h => h))
  have BB5 := Lib.hid (BB3.out.fr hF45 (fun h => h))
  have BU5 := Lib.hid (Bk.new w4 26 (txa u))
  have HU5 := Lib.hid (hcp.inn.nofr hW5)
  have SU := Lib.hid (SA.out.like HC.out.reads HC.out.writes HC.out.ops)
  clear hcp hW5 hF45 HF3 BA3 BB3 a0 a1 a2 a3 a4
  obtain ⟨u0, u1, u2, u3, u4⟩ := BU5.out.txn'
  unfold txv
  unfold txa at u0 u1 u2 u3 u4 ⊢
  have hcy := pcopy_any _ u HU5.out SU.out
  have HCY := Lib.hid hcy
  clear hcy
  unfold txv txa at HCY
  go_wp2_with fail
  refine HCY.out.mono ?_
  rintro e w6 ⟨c, rfl, hcy⟩
  have HY := Lib.hid hcy
  have hW7 := (Fr.refl NoBlk w6).alloc (.cells (txa c) 26)
  have hF57 := hcy.fr.trans hW7
  have HF57 := Lib.hid hF57
  have HF7 := Lib.hid (HF5.out.trans hF57)
  have BA7 := Lib.hid (BA5.out.fr hF57 (fun h => h))
  have BB7 := Lib.hid (BB5.out.fr hF57 (fun h => h))
  have BU7 := Lib.hid (BU5.out.fr hF57 (fun h => h))
  have BC7 := Lib.hid (Bk.new w6 26 (txa c))
  have HC7 := Lib.hid (hcy.inn.nofr hW7)
  have HO7 := Lib.hid (hcy.own.fr hW7)
  have SC := Lib.hid (SU.out.like hcy.reads hcy.writes hcy.ops)
  obtain ⟨gc, hgc⟩ : ∃ gc, gc = w6.heap.size := ⟨_, rfl⟩
  have HGC := Lib.hid hgc
  rw [← hgc] at BC7
  clear hcy hW7 hF57 u0 u1 u2 u3 u4 HCY
  have HLK : Hid (Alike c.ops a.ops) := HY.out.ops.trans HC.out.ops
  have q1 : txSame c a = true := txSame_of (HY.out.kind.trans HC.out.kind) (HY.out.to_.trans HC.out.to_) (HY.out.reads.trans HC.out.reads) (HY.out.writes.trans HC.out.writes) HLK.out
  have K1 := Lib.hid fun W (hf : Fr NoBlk w W) (hc : TxIn W c) => same_any W c a hc (HA.out.nofr hf) SC.out SA.out
  have K2 := Lib.hid fun W (hf : Fr NoBlk w W) => sameP_any W a b (HA.out.nofr hf) (HB.out.nofr hf) SA.out SB.out
  have K3 := Lib.hid fun W (hf : Fr NoBlk w W) => same_any W a b (HA.out.nofr hf) (HB.out.nofr hf) SA.out SB.out
  have K4 := Lib.hid fun W (hf : Fr NoBlk w W) (hc : TxIn W c) => sameP_any W c a hc (HA.out.nofr hf) SC.out SA.out
  rw [q1] at K1 K4
  clear q1
  generalize txSame a b = sab at K2 K3
  unfold txv txa at K1 K2 K3 K4
  unfold txv txa
  obtain ⟨w7, hw7⟩ : ∃ w7, w7 = w6.alloc (.cells (txa c) 26) := ⟨_, rfl⟩
  rw [← hw7] at HF57 HF7 BA7 BB7 BU7 BC7 HC7 HO7
  have HS0 := Lib.hid (sThree BC7.out BA7.out BB7.out)
  unfold txa at hw7
  have HW7 := Lib.hid hw7
  clear hw7 hgc
  go_wp2_with fail
  rw [← HW7.out, ← HGC.out]
  go_region_held3 (fun w' => (w'.cell? ⟨gc, 0, none⟩ = some (.int .i64 c.kind) ∧ w'.cell? ⟨gc, 1, none⟩ = some (.slice c.ra c.reads.length c.rc) ∧ w'.cell? ⟨gc, 2, none⟩ = some (.slice c.wa c.writes.length c.wc) ∧ w'.cell? ⟨gc, 3, none⟩ = some (.slice c.oa c.ops.length c.oc) ∧ w'.cell? ⟨gc, 4, none⟩ = some (.int .i64 c.to)) ∧ (w'.cell? ⟨w.heap.size, 0, none⟩ = some (.int .i64 a.kind) ∧ w'.cell? ⟨w.heap.size, 1, none⟩ = some (.slice a.ra a.reads.length a.rc) ∧ w'.cell? ⟨w.heap.size, 2, none⟩ = some (.slice a.wa a.writes.length a.wc) ∧ w'.cell? ⟨w.heap.size, 3, none⟩ = some (.slice a.oa a.ops.length a.oc) ∧ w'.cell? ⟨w.heap.size, 4, none⟩ = some (.int .i64 a.to)) ∧ (w'.cell? ⟨w.heap.size + 1, 0, none⟩ = some (.int .i64 b.kind) ∧ w'.cell? ⟨w.heap.size + 1, 1, none⟩ = some (.slice b.ra b.reads.length b.rc) ∧ w'.cell? ⟨w.heap.size + 1, 2, none⟩ = some (.slice b.wa b.writes.length b.wc) ∧ w'.cell? ⟨w.heap.size + 1, 3, none⟩ = some (.slice b.oa b.ops.length b.oc) ∧ w'.cell? ⟨w.heap.size + 1, 4, none⟩ = some (.int .i64 b.to)))
    ((first | with_reducible exact hS11 | with_reducible exact hS10 | with_reducible exact hS9 | with_reducible exact hS8 | exact HS0.out))
    (first
      | (go_at_call_of 15 (Value.agg #[.int .i64 c.kind, .slice c.ra c.reads.length c.rc, .slice c.wa c.writes.length c.wc, .slice c.oa c.ops.length c.oc, .int .i64 c.to]); (with_reducible refine (K1.out _ ?_ ?_).mono ?_); exact HF7.out.drew; exact HC7.out.nofr (Fr.refl _ _).drew; rintro e w8 ⟨rfl, hf8⟩; have HF8 := Lib.hid (((Fr.refl NoBlk w7).drew).trans hf8); have hS8 := sThree (BC7.out.fr HF8.out (fun h => h)) (BA7.out.fr HF8.out (fun h => h)) (BB7.out.fr HF8.out (fun h => h)); clear hf8)
      | (go_at_call_of 22 (Value.agg #[.int .i64 a.kind, .slice a.ra a.reads.length a.rc, .slice a.wa a.writes.length a.wc, .slice a.oa a.ops.length a.oc, .int .i64 a.to]); (with_reducible refine (K2.out _ ?_).mono ?_); exact HF7.out.trans HF8.out; rintro e w9 ⟨rfl, hf9⟩; have HF9 := Lib.hid (HF8.out.trans hf9); have hS9 := sThree (BC7.out.fr HF9.out (fun h => h)) (BA7.out.fr HF9.out (fun h => h)) (BB7.out.fr HF9.out (fun h => h)); clear hf9)
      | (go_at_call_of 15 (Value.agg #[.int .i64 a.kind, .slice a.ra a.reads.length a.rc, .slice a.wa a.writes.length a.wc, .slice a.oa a.ops.length a.oc, .int .i64 a.to]); (with_reducible refine (K3.out _ ?_).mono ?_); exact HF7.out.trans HF9.out; rintro e w10 ⟨rfl, hf10⟩; have HF10 := Lib.hid (HF9.out.trans hf10); have hS10 := sThree (BC7.out.fr HF10.out (fun h => h)) (BA7.out.fr HF10.out (fun h => h)) (BB7.out.fr HF10.out (fun h => h)); clear hf10)
      | (go_at_call_of 22 (Value.agg #[.int .i64 c.kind, .slice c.ra c.reads.length c.rc, .slice c.wa c.writes.length c.wc, .slice c.oa c.ops.length c.oc, .int .i64 c.to]); (with_reducible refine (K4.out _ ?_ ?_).mono ?_); exact HF7.out.trans HF10.out; exact HC7.out.nofr HF10.out; rintro e w11 ⟨rfl, hf11⟩; have HF11 := Lib.hid (HF10.out.trans hf11); have hS11 := sThree (BC7.out.fr HF11.out (fun h => h)) (BA7.out.fr HF11.out (fun h => h)) (BB7.out.fr HF11.out (fun h => h)); clear hf11))
  have HF11' := Lib.hid (HF7.out.trans HF11.out)
  have HN : Hid (w6.heap.size ≤ w7.heap.size) := by show _ ≤ _; rw [HW7.out]; simp
  have HN5 : Hid ((w4.alloc (.cells (txa u) 26)).heap.size ≤ w7.heap.size) := HF57.out.size
  have BC := Lib.hid (BC7.out.fr HF11.out (fun h => h))
  have BA := Lib.hid (BA7.out.fr HF11.out (fun h => h))
  have BU := Lib.hid (BU7.out.fr HF11.out (fun h => h))
  have HCI := Lib.hid (HC7.out.nofr HF11.out)
  have HL0 := Lib.hid (SLoop.start BC.out (HO7.out.fr HF11.out) HCI.out)
  have e4 : ∀ o, (w4.alloc o).heap.size = w4.heap.size + 1 := fun o => by simp
  rw [e4] at HL0 HN5
  obtain ⟨N, hN⟩ : ∃ N, N = w4.heap.size + 1 := ⟨_, rfl⟩
  rw [← hN] at HL0 HN5
  have HNE := Lib.hid hN
  clear hN e4 hS8 hS9 hS10 hS11 K1 K2 K3 K4 HF8 HF9 HF10 BC7 BB7 HC7 HO7
  have c3 : w11.cell? ⟨gc, 3, none⟩ = some (.slice c.oa c.ops.length c.oc) := BC.out.cell 3
  have hon : c.ops.length ≤ 60 := SC.out.o
  have hrn : c.reads.length ≤ 40 := SC.out.r
  have hwn : c.writes.length ≤ 40 := SC.out.w
  have hbne : (sab != sab) = false := by cases sab <;> rfl
  go_wp2_with fail
  go_loopw [45] (fun z wr => ∃ i : Nat, i ≤ c.ops.length ∧ z = .int .i64 i ∧ Hid (SLoop w11 wr N gc c i)) (fun z _ => c.ops.length - (intOf z).toNat)
  case atStart => exact ⟨0, by omega, rfl, HL0⟩
  case round =>
    obtain ⟨i, hi, rfl, HH⟩ := hrel
    by_cases hlt : i < c.ops.length
    · obtain ⟨go, cs, hA, hNo, hbo, hsz⟩ := HH.out.own.fo_ (by omega)
      obtain ⟨x, hx⟩ : ∃ x, c.ops[i]? = some x := ⟨_, List.getElem?_eq_getElem hlt⟩
      have HA' := Lib.hid hA
      have HX := Lib.hid hx
      have c3 : wr.cell? ⟨gc, 3, none⟩ = some (.slice c.oa c.ops.length c.oc) := HH.out.bk.cell 3
      rw [hA] at c3
      have x2 : wr.cell? ⟨go, i * 4 + 2, none⟩ = some (.slice x.val.1 x.val.2.2.length x.val.2.1) := HH.out.row i x (Nat.le_refl _) hx go hA 2 _ rfl
      have hxl : x.val.2.2.length ≤ 200 := (SC.out.ok x (List.mem_of_getElem? hx)).2
      have i0' : (0 : Int) ≤ (i : Int) := by omega
      have i1' : (i : Int) < (c.ops.length : Int) := by omega
      clear hA hx hbo hsz
      go_wp2_with fail
      have HL1 : Hid (SLoop w11 wr N gc c i) := HH
      go_loopw [55] (fun z wr => ∃ k : Nat, k ≤ x.val.2.2.length ∧ z = .int .i64 k ∧ Hid (SLoop w11 wr N gc c i)) (fun z _ => x.val.2.2.length - (intOf z).toNat)
      case atStart => exact ⟨0, by omega, rfl, HL1⟩
      case round =>
        clear c3 x2 HH HL1
        obtain ⟨k, hk, rfl, HH⟩ := hrel
        by_cases hlk : k < x.val.2.2.length
        · obtain ⟨gv, csv, hAv, hNv, hbv, hsv⟩ := HH.out.own.fv_ x (List.mem_of_getElem? HX.out) (by omega)
          have c3 : wr.cell? ⟨gc, 3, none⟩ = some (.slice c.oa c.ops.length c.oc) := HH.out.bk.cell 3
          rw [HA'.out] at c3
          have x2 : wr.cell? ⟨go, i * 4 + 2, none⟩ = some (.slice x.val.1 x.val.2.2.length x.val.2.1) := HH.out.row i x (Nat.le_refl _) HX.out go HA'.out 2 _ rfl
          rw [hAv] at x2
          have v0 : wr.cell? ⟨gv, k, none⟩ = some (csv[k]'(by omega)) := by rw [hbv.cell]; exact Array.getElem?_eq_getElem (by omega)
          have v1 : wr.frozen? ⟨gv, k, none⟩ = false := hbv.free k
          have HN2 := Lib.hid (HH.out.putT hbv hNv (by decide) (by decide) k (.int .u8 238))
          have k1' : (k : Int) < (x.val.2.2.length : Int) := by omega
          generalize csv[k]'(by omega) = vv at v0
          clear hAv hbv hsv
          go_wp2_with fail
          go_roundw
          case rel => exact ⟨k + 1, by omega, by go_num, HN2⟩
          case measure => simp [intOf]; omega
        · obtain ⟨go', cs, hA, hNo, hbo, hsz⟩ := HH.out.own.fo_ (by omega)
          rw [HA'.out] at hA
          injection hA with hA
          injection hA with hA
          subst hA
          have c3 : wr.cell? ⟨gc, 3, none⟩ = some (.slice c.oa c.ops.length c.oc) := HH.out.bk.cell 3
          rw [HA'.out] at c3
          have x0 : wr.cell? ⟨go, i * 4, none⟩ = some (.int .i64 x.kind) := HH.out.row i x (Nat.le_refl _) HX.out go HA'.out 0 _ rfl
          have x1 : wr.cell? ⟨go, i * 4 + 1, none⟩ = some (.string (bstr x.key)) := HH.out.row i x (Nat.le_refl _) HX.out go HA'.out 1 _ rfl
          have x2 : wr.cell? ⟨go, i * 4 + 2, none⟩ = some (.slice x.val.1 x.val.2.2.length x.val.2.1) := HH.out.row i x (Nat.le_refl _) HX.out go HA'.out 2 _ rfl
          have x3 : wr.cell? ⟨go, i * 4 + 3, none⟩ = some (.int .i64 x.n) := HH.out.row i x (Nat.le_refl _) HX.out go HA'.out 3 _ rfl
          have f0 := hbo.free (i * 4)
          have f1 := hbo.free (i * 4 + 1)
          have f2 := hbo.free (i * 4 + 2)
          have f3 := hbo.free (i * 4 + 3)
          have HN2 := Lib.hid ((((HH.out.up.putO HA'.out hbo hNo (i * 4) (by omega) (.int .i64 0)).putO HA'.out (hbo.put _ _) hNo (i * 4 + 1) (by omega) (.string ByteArray.empty)).putO HA'.out ((hbo.put _ _).put _ _) hNo (i * 4 + 2) (by omega) (.slice none 0 0)).putO HA'.out (((hbo.put _ _).put _ _).put _ _) hNo (i * 4 + 3) (by omega) (.int .i64 0))
          clear hbo hsz
          go_wp2_with fail
          go_roundw
          case rel => exact ⟨i + 1, by omega, by go_num, HN2⟩
          case measure => simp [intOf]; omega
    · have c1 : wr.cell? ⟨gc, 1, none⟩ = some (.slice c.ra c.reads.length c.rc) := HH.out.bk.cell 1
      have HL1 : Hid (SLoop w11 wr N gc c c.ops.length) := by
        have e : i = c.ops.length := by omega
        have h := HH.out
        rw [e] at h
        exact h
      clear HL0
      go_wp2_with fail
      go_loopw [76] (fun z wr => ∃ i : Nat, i ≤ c.reads.length ∧ z = .int .i64 i ∧ Hid (SLoop w11 wr N gc c c.ops.length)) (fun z _ => c.reads.length - (intOf z).toNat)
      case atStart => exact ⟨0, by omega, rfl, HL1⟩
      case round =>
        clear c1 HH HL1
        obtain ⟨m, hm, rfl, HH⟩ := hrel
        have c1 : wr.cell? ⟨gc, 1, none⟩ = some (.slice c.ra c.reads.length c.rc) := HH.out.bk.cell 1
        by_cases hlm : m < c.reads.length
        · obtain ⟨gv, csv, hAv, hNv, hbv, hsv⟩ := HH.out.own.fr_ (by omega)
          rw [hAv] at c1
          have v0 : wr.cell? ⟨gv, m, none⟩ = some (csv[m]'(by omega)) := by rw [hbv.cell]; exact Array.getElem?_eq_getElem (by omega)
          have v1 : wr.frozen? ⟨gv, m, none⟩ = false := hbv.free m
          have HN2 := Lib.hid (HH.out.putT hbv hNv (by decide) (by decide) m (.string ⟨#[63]⟩))
          have k1' : (m : Int) < (c.reads.length : Int) := by omega
          generalize csv[m]'(by omega) = vv at v0
          clear hAv hbv hsv
          go_wp2_with fail
          go_roundw
          case rel => exact ⟨m + 1, by omega, by go_num, HN2⟩
          case measure => simp [intOf]; omega
        · have c2 : wr.cell? ⟨gc, 2, none⟩ = some (.slice c.wa c.writes.length c.wc) := HH.out.bk.cell 2
          have HL1 := Lib.hid HH.out
          skip
          go_wp2_with fail
          go_loopw [87] (fun z wr => ∃ i : Nat, i ≤ c.writes.length ∧ z = .int .i64 i ∧ Hid (SLoop w11 wr N gc c c.ops.length)) (fun z _ => c.writes.length - (intOf z).toNat)
          case atStart => exact ⟨0, by omega, rfl, HL1⟩
          case round =>
            clear c2 HH HL1
            obtain ⟨m, hm, rfl, HH⟩ := hrel
            have c2 : wr.cell? ⟨gc, 2, none⟩ = some (.slice c.wa c.writes.length c.wc) := HH.out.bk.cell 2
            by_cases hlm : m < c.writes.length
            · obtain ⟨gv, csv, hAv, hNv, hbv, hsv⟩ := HH.out.own.fw_ (by omega)
              rw [hAv] at c2
              have v0 : wr.cell? ⟨gv, m, none⟩ = some (csv[m]'(by omega)) := by rw [hbv.cell]; exact Array.getElem?_eq_getElem (by omega)
              have v1 : wr.frozen? ⟨gv, m, none⟩ = false := hbv.free m
              have HN2 := Lib.hid (HH.out.putT hbv hNv (by decide) (by decide) m (.string ⟨#[63]⟩))
              have k1' : (m : Int) < (c.writes.length : Int) := by omega
              generalize csv[m]'(by omega) = vv at v0
              clear hAv hbv hsv
              go_wp2_with fail
              go_roundw
              case rel => exact ⟨m + 1, by omega, by go_num, HN2⟩
              case measure => simp [intOf]; omega
            · have HFN := Lib.hid HH.out.fr
              have hnn : w4.heap.size < N := by have := HNE.out; omega
              have BUz := Lib.hid (BU.out.fr HFN.out (fun e => absurd e (by omega)))
              have hal : w.heap.size < N := by have := BA5.out.lt; have := HNE.out; simp at *; omega
              have BAz := Lib.hid (BA.out.fr HFN.out (fun e => absurd e (by omega)))
              obtain ⟨a0, a1, a2, a3, a4⟩ := BAz.out.txn'
              obtain ⟨u0, u1, u2, u3, u4⟩ := BUz.out.txn'
              have HFZ : Hid (Fr NoBlk w wr) := HF11'.out.step HFN.out (fun j hj e => absurd e (by omega))
              have HUz : Hid (TxIn wr u) := HU5.out.frO (HF57.out.trans HF11.out) (by have := HNE.out; simp; omega) HFN.out
              have K5 := Lib.hid (same_any wr u a HUz.out (HA.out.nofr HFZ.out) SU.out SA.out)
              have q2 : txSame u a = true := txSame_of HC.out.kind HC.out.to_ HC.out.reads HC.out.writes HC.out.ops
              rw [q2] at K5
              clear q2
              unfold txv txa at K5
              go_wp2_with fail
              refine K5.out.mono ?_
              rintro e wz ⟨rfl, hfz⟩
              have HFY := Lib.hid (HFZ.out.trans hfz)
              clear hfz
              go_wp2_with fail
              go_ret
              exact ⟨rfl, HFY.out⟩

theorem paramsOk : ∀ t ∈ Try.f6.params.toList, Try.prog.readableRec t = true ∧ t < Try.prog.types.size := fun t ht => by
  have h := List.all_eq_true.1 (show (Try.f6.params.toList.all fun t => Try.prog.readableRec t && decide (t < Try.prog.types.size)) = true by kernel_rfl) t ht
  simpa using h

set_option maxRecDepth 100000 in
theorem lifted (os : Os) (started : os.Started) (H : Type) (enc : TypeId × Value → H) :
    ReturnsInHanded {} Try.checked os 6 .any (Rows.progSameSpec.pre6 enc Try.prog Try.f6 Rows.progSameRow.domain false) (Rows.progSameSpec.post enc Try.prog Try.f6 false true false false) := by
  refine returnsInHanded_of_change (C := Try.checked) own started (by kernel_rfl) Try.func6
    (ChangeSpec.witness6 (enc := enc) (C := Try.checked) false ⟨#[], #[.agg #[.int .i64 0, .slice none 0 0, .slice none 0 0, .slice none 0 0, .int .i64 0], .agg #[.int .i64 0, .slice none 0 0, .slice none 0 0, .slice none 0 0, .int .i64 0]], []⟩ 8 (by kernel_rfl) (by kernel_rfl) (by kernel_rfl) (by kernel_rfl)) ?_
  intro W base args ds gs before hval0 hW _ _
  have hval : ∀ (j : Nat) t v, Try.f6.params[j]? = some t → args[j]? = some v → Value.okWide Try.prog W .any base t v := hval0
  have hW' := hW
  obtain ⟨p, q, hA0, hV, rfl, _, _⟩ := hW
  have hA : DataW.TrodAll enc Try.prog W 0 (fun _ => true) true Try.f6.params.toList args.toList ds p := hA0
  rw [Try.params6] at hA hval
  obtain ⟨v0, vs0, d0, ds0, p0, q0, hargs, rfl, rfl, h0, r0⟩ := trodAll_cons hA
  obtain ⟨v1, vs1, d1, ds1, p1, q1, rfl, rfl, rfl, h1, r1⟩ := trodAll_cons r0
  obtain ⟨rfl, rfl, rfl⟩ := trodAll_nil r1
  obtain rfl : args = #[v0, v1] := by cases args; simp_all
  obtain ⟨rfl, rfl⟩ := trodVars_none hV
  obtain ⟨a, rfl, ha⟩ := open_txn (hval 0 _ v0 rfl rfl) h0
  obtain ⟨b, rfl, hb⟩ := open_txn (hval 1 _ v1 rfl rfl) h1
  have walk := walk W a b ha hb
  clear hA0 hval0
  refine walk.mono fun e W' ⟨he, hf⟩ => ?_
  subst he
  exact ⟨_, rfl, law_post laidOut paramsOk rfl rfl Try.underlying4 hW' rfl rfl rfl hf⟩

theorem said : Rows.ProgSameSaid :=
  OpenClaim.holds_of_wide 6 Try.f6 rfl rfl rfl rfl rfl rfl rfl ⟨rfl, rfl, rfl, rfl, rfl⟩ rfl rfl rfl rfl rfl (by kernel_rfl) Try.func6 (by kernel_rfl)
    (of_decide_eq_true (by kernel_rfl)) (by unfold Func.isWrapper; first | (rw [if_pos (by decide +kernel)]; kernel_rfl) | (rw [if_neg (by decide +kernel)]; exact ⟨rfl, rfl⟩))
    (fun os started H enc _ => lifted os started H enc)
end Go.Proofs.Ytlnfmojmkejaoaa.progSame
