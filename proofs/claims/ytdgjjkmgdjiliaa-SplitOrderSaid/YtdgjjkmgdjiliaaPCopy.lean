/- The program's Copy: alike, in memory of its own. Conditions: the transaction is small. -/
import Derived.Test.YtdgjjkmgdjiliaaPCopyL
namespace Go.Proofs.Ytdgjjkmgdjiliaa
open Go.RowKit

set_option maxRecDepth 100000 in
set_option maxHeartbeats 8000000 in
theorem pcopy_any (w : World) (t : Tx) (ht : TxIn w t) (hs : Small t) : Calls Try.prog 73 #[txv t] w (CpyPost w t) := by
  have HT := Lib.hid ht
  have HS := Lib.hid hs
  have HF0 : Hid (Fr NoBlk w ((w.alloc (.cells (txa t) 35)).alloc (.cells #[.int .i64 0, .slice none 0 0, .slice none 0 0, .slice none 0 0, .int .i64 0] 35))) := ((Fr.refl _ _).alloc _).alloc _
  have HB0 := Lib.hid ((Bk.new w 35 (txa t)).alloc (.cells #[.int .i64 0, .slice none 0 0, .slice none 0 0, .slice none 0 0, .int .i64 0] 35))
  have HR0 := Lib.hid (Bk.new2 w (.cells (txa t) 35) 35 #[.int .i64 0, .slice none 0 0, .slice none 0 0, .slice none 0 0, .int .i64 0])
  have K1 := Lib.hid fun W (hf : Fr NoBlk w W) => cloneS_any W t.ra _ t.rc t.reads rfl (ht.reads.nofr hf) ht.rl.2.2 ht.rl.1 (by have := hs.r; omega)
  have K2 := Lib.hid fun W (hf : Fr NoBlk w W) => cloneS_any W t.wa _ t.wc t.writes rfl (ht.writes.nofr hf) ht.wl.2.2 ht.wl.1 (by have := hs.w; omega)
  have K3 := Lib.hid fun W (hf : Fr NoBlk w W) => cloneO_any W t.oa _ t.oc t.ops rfl (ht.ops.nofr hf) ht.ol.2.2 ht.ol.1 (by have := hs.o; omega)
  have hon : t.ops.length ≤ 60 := hs.o
  clear ht hs
  unfold txv
  unfold txa at HF0 HB0 HR0
  unfold txa
  go_enter Try.func73, Try.ntmps73
  go_wp2_with fail
  refine (K1.out _ HF0.out).mono ?_
  rintro e w1 ⟨A1, c1, rfl, hg1⟩
  have HG1 := Lib.hid hg1
  have hf1 := hg1.got.fr
  have hb1 := HB0.out.fr hf1 (fun h => h)
  have hr1 := HR0.out.fr hf1 (fun h => h)
  have d1 : w1.cell? ⟨w.heap.size, 1, none⟩ = some (.slice t.ra t.reads.length t.rc) := hb1.cell 1
  have e1 := hb1.free 1
  have d2 : w1.cell? ⟨w.heap.size, 2, none⟩ = some (.slice t.wa t.writes.length t.wc) := hb1.cell 2
  have HF1 := Lib.hid ((HF0.out.trans hf1).setCell (p := ⟨w.heap.size, 1, none⟩) (fun h => absurd h (Nat.lt_irrefl _)) (.slice A1 t.reads.length c1))
  have HB1 := Lib.hid (hb1.put 1 (.slice A1 t.reads.length c1))
  have HR1 := Lib.hid (hr1.far (p := ⟨w.heap.size, 1, none⟩) (by show w.heap.size + 1 ≠ w.heap.size; omega) (.slice A1 t.reads.length c1))
  have HS1 : Hid (w.heap.size + 2 ≤ w1.heap.size) := by have := hf1.size; simp at this; show _ ≤ _; omega
  have HP1 : Hid (Rd (w1.setCell ⟨w.heap.size, 1, none⟩ (.slice A1 t.reads.length c1)) A1 (sts t.reads) ∧ Fsh (w1.setCell ⟨w.heap.size, 1, none⟩ (.slice A1 t.reads.length c1)) w.heap.size A1 (t.reads.length * 1) 9) :=
    ⟨hg1.got.rd.far _ (fun hp => hg1.fsh.ne hb1 (by decide) (by rw [sts_len] at hp; omega)) _, (hg1.fsh.mono (by simp; omega)).put _ rfl _⟩
  clear hg1 hf1 hb1 hr1 HB0 HR0 HF0
  go_wp2_with fail
  refine (K2.out _ HF1.out).mono ?_
  rintro e w2 ⟨A2, c2, rfl, hg2⟩
  have HG2 := Lib.hid hg2
  have hf2 := hg2.got.fr
  have hb2 := HB1.out.fr hf2 (fun h => h)
  have hr2 := HR1.out.fr hf2 (fun h => h)
  have d3 : w2.cell? ⟨w.heap.size, 3, none⟩ = some (.slice t.oa t.ops.length t.oc) := hb2.cell 3
  have d2 : w2.cell? ⟨w.heap.size, 2, none⟩ = some (.slice t.wa t.writes.length t.wc) := hb2.cell 2
  have e2 := hb2.free 2
  have HF2 := Lib.hid ((HF1.out.trans hf2).setCell (p := ⟨w.heap.size, 2, none⟩) (fun h => absurd h (Nat.lt_irrefl _)) (.slice A2 t.writes.length c2))
  have HB2 := Lib.hid (hb2.put 2 (.slice A2 t.writes.length c2))
  have HR2 := Lib.hid (hr2.far (p := ⟨w.heap.size, 2, none⟩) (by show w.heap.size + 1 ≠ w.heap.size; omega) (.slice A2 t.writes.length c2))
  have HP2 : Hid (Rd (w2.setCell ⟨w.heap.size, 2, none⟩ (.slice A2 t.writes.length c2)) A2 (sts t.writes) ∧ Fsh (w2.setCell ⟨w.heap.size, 2, none⟩ (.slice A2 t.writes.length c2)) w.heap.size A2 (t.writes.length * 1) 9) :=
    ⟨hg2.got.rd.far _ (fun hp => hg2.fsh.ne hb2 (by decide) (by rw [sts_len] at hp; omega)) _, (hg2.fsh.mono (by have := HS1.out; simp [World.setCell]; omega)).put _ rfl _⟩
  have HP1 : Hid (Rd (w2.setCell ⟨w.heap.size, 2, none⟩ (.slice A2 t.writes.length c2)) A1 (sts t.reads) ∧ Fsh (w2.setCell ⟨w.heap.size, 2, none⟩ (.slice A2 t.writes.length c2)) w.heap.size A1 (t.reads.length * 1) 9) :=
    ⟨(HP1.out.1.nofr hf2).far _ (fun hp => (HP1.out.2.fr hf2).ne hb2 (by decide) (by rw [sts_len] at hp; omega)) _, (HP1.out.2.fr hf2).put _ rfl _⟩
  clear hg2 hf2 hb2 hr2 HB1 HR1 HF1
  go_wp2_with fail
  refine (K3.out _ HF2.out).mono ?_
  rintro e w3 ⟨A3, c3, rfl, hg3⟩
  have HG3 := Lib.hid hg3
  have hf3 := hg3.got.fr
  have hb3 := HB2.out.fr hf3 (fun h => h)
  have hr3 := HR2.out.fr hf3 (fun h => h)
  have d3 : w3.cell? ⟨w.heap.size, 3, none⟩ = some (.slice t.oa t.ops.length t.oc) := hb3.cell 3
  have e3 := hb3.free 3
  have HSZ : Hid (w.heap.size ≤ (w2.setCell ⟨w.heap.size, 2, none⟩ (.slice A2 t.writes.length c2)).heap.size) := HF2.out.size
  have HL : Hid (PLoop w (w3.setCell ⟨w.heap.size, 3, none⟩ (.slice A3 t.ops.length c3)) t w.heap.size A1 c1 A2 c2 A3 c3 t.ops 0) :=
    PLoop.start (Nat.le_refl _) (hb3.put 3 (.slice A3 t.ops.length c3)) (hr3.far (p := ⟨w.heap.size, 3, none⟩) (by show w.heap.size + 1 ≠ w.heap.size; omega) _)
      ((HP1.out.1.nofr hf3).far _ (fun hp => (HP1.out.2.fr hf3).ne hb3 (by decide) (by rw [sts_len] at hp; omega)) _) ((HP2.out.1.nofr hf3).far _ (fun hp => (HP2.out.2.fr hf3).ne hb3 (by decide) (by rw [sts_len] at hp; omega)) _)
      (hg3.got.rd.far _ (fun hp => hg3.fsh.ne hb3 (by decide) (by rw [opsc_len] at hp; omega)) _)
      ⟨HG1.out.got.le, HG1.out.got.max, HG1.out.got.nil⟩ ⟨HG2.out.got.le, HG2.out.got.max, HG2.out.got.nil⟩ ⟨hg3.got.le, hg3.got.max, hg3.got.nil⟩
      ((HP1.out.2.fr hf3).put _ rfl _) ((HP2.out.2.fr hf3).put _ rfl _) ((hg3.fsh.mono HSZ.out).put _ rfl _)
      ((HF2.out.trans hf3).setCell (p := ⟨w.heap.size, 3, none⟩) (fun h => absurd h (Nat.lt_irrefl _)) _)
  clear hg3 hf3 hb3 hr3 HB2 HR2 HF2 HP1 HP2 HG1 HG2 HG3 HSZ HS1
  go_wp2_with fail
  go_loopw [19] (fun z wr => ∃ (k : Nat) (os : List Opn), k ≤ t.ops.length ∧ z = .int .i64 k ∧ Hid (PLoop w wr t w.heap.size A1 c1 A2 c2 A3 c3 os k)) (fun z _ => t.ops.length - (intOf z).toNat)
  case atStart => exact ⟨0, t.ops, by omega, rfl, HL⟩
  case round =>
    obtain ⟨k, os, hk, rfl, HH⟩ := hrel
    by_cases hlt : k < t.ops.length
    · obtain ⟨go, cs, hA, hN, hbo, hsz⟩ := HH.out.f3 (by omega)
      subst hA
      obtain ⟨x, hx⟩ : ∃ x, os[k]? = some x := ⟨_, List.getElem?_eq_getElem (by rw [HH.out.like.1]; exact hlt)⟩
      obtain ⟨b, o, hA, x0, x1, x2, x3⟩ := HH.out.rd3.opn hx
      injection hA with hA
      injection hA with hA1 hA2 _
      subst hA1 hA2
      have ht := HT.out.vals x (List.mem_of_getElem? (HH.out.old k x (Nat.le_refl _) hx))
      have hx200 := (HS.out.ok x (List.mem_of_getElem? (HH.out.old k x (Nat.le_refl _) hx))).2
      have HC := Lib.hid fun W (hf : Fr NoBlk w W) => cloneB_any W x.val.1 _ x.val.2.1 x.val.2.2 rfl (ht.1.1.nofr hf) ht.1.2 ht.2.1 (by omega)
      have HFW := Lib.hid HH.out.fr
      have q3 : wr.cell? ⟨w.heap.size, 3, none⟩ = some (.slice (some ⟨go, 0, none⟩) t.ops.length c3) := HH.out.bk.cell 3
      have y2 : wr.cell? ⟨go, k * 4 + 2, none⟩ = some (.slice x.val.1 x.val.2.2.length x.val.2.1) := by
        have := x2
        rwa [Nat.zero_add] at this
      have hbl : w.heap.size < wr.heap.size := HH.out.bk.lt
      have hgl : go < wr.heap.size := hbo.lt
      have HBO := Lib.hid hbo
      have HXX := Lib.hid hx
      have i0' : (0 : Int) ≤ (k : Int) := by omega
      have i1' : (k : Int) < (t.ops.length : Int) := by omega
      have HVL : Hid (x.val.2.2.length = x.val.2.2.length) := rfl
      clear ht hx x0 x1 x2 x3 hbo hsz hN
      go_wp2_with fail
      go_region_with
        (first
        | (go_at_call 96
           refine (HC.out _ (by first | exact HFW.out | exact HFW.out.drew)).mono ?_
           rintro e w5 ⟨A5, c5, rfl, hg5⟩
           have HG5 := Lib.hid hg5
           have HO5 := Lib.hid hg5.got.fr
           have q5 : w5.cell? ⟨w.heap.size, 3, none⟩ = some (.slice (some ⟨go, 0, none⟩) t.ops.length c3) := (HO5.out.cell (p := ⟨w.heap.size, 3, none⟩) hbl (fun h => h)).trans q3
           have y5 : w5.cell? ⟨go, k * 4 + 2, none⟩ = some (.slice x.val.1 x.val.2.2.length x.val.2.1) := (HO5.out.cell (p := ⟨go, k * 4 + 2, none⟩) hgl (fun h => h)).trans y2
           have z5 : w5.frozen? ⟨go, k * 4 + 2, none⟩ = false := (HO5.out.frozen (p := ⟨go, k * 4 + 2, none⟩) hgl (fun h => h)).trans (HBO.out.free _)
           clear hg5))
      all_goals
        go_wp2_with fail
        go_roundw
        case rel =>
          refine ⟨k + 1, os.set k ⟨x.kind, x.key, (A5, c5, x.val.2.2), x.n⟩, by omega, by go_num, ?_⟩
          first
          | exact HH.out.next hlt HXX.out HG5.out
          | exact (HH.out.next hlt HXX.out HG5.out).drew
          | exact HH.out.next hlt HXX.out HG5.out.undrew
          | exact (HH.out.next hlt HXX.out HG5.out.undrew).drew
        case measure => simp [intOf]; omega
    · obtain rfl : k = t.ops.length := by omega
      have p0 : wr.cell? ⟨w.heap.size, 0, none⟩ = some (.int .i64 t.kind) := HH.out.bk.cell 0
      have p1 : wr.cell? ⟨w.heap.size, 1, none⟩ = some (.slice A1 t.reads.length c1) := HH.out.bk.cell 1
      have p2 : wr.cell? ⟨w.heap.size, 2, none⟩ = some (.slice A2 t.writes.length c2) := HH.out.bk.cell 2
      have p3 : wr.cell? ⟨w.heap.size, 3, none⟩ = some (.slice A3 t.ops.length c3) := HH.out.bk.cell 3
      have p4 : wr.cell? ⟨w.heap.size, 4, none⟩ = some (.int .i64 t.to) := HH.out.bk.cell 4
      have r0 : wr.cell? ⟨w.heap.size + 1, 0, none⟩ = some (.int .i64 0) := HH.out.res.cell 0
      have r1 : wr.cell? ⟨w.heap.size + 1, 1, none⟩ = some (.slice none 0 0) := HH.out.res.cell 1
      have r2 : wr.cell? ⟨w.heap.size + 1, 2, none⟩ = some (.slice none 0 0) := HH.out.res.cell 2
      have r3 : wr.cell? ⟨w.heap.size + 1, 3, none⟩ = some (.slice none 0 0) := HH.out.res.cell 3
      have r4 : wr.cell? ⟨w.heap.size + 1, 4, none⟩ = some (.int .i64 0) := HH.out.res.cell 4
      have s0 := HH.out.res.free 0
      have s1 := HH.out.res.free 1
      have s2 := HH.out.res.free 2
      have s3 := HH.out.res.free 3
      have s4 := HH.out.res.free 4
      go_wp2_with fail
      have hbz := (((((HH.out.res.put 0 (.int .i64 t.kind)).put 1 (.slice A1 t.reads.length c1)).put 2 (.slice A2 t.writes.length c2)).put 3 (.slice A3 t.ops.length c3)).put 4 (.int .i64 t.to))
      have z0 : (((((wr.setCell ⟨w.heap.size + 1, 0, none⟩ (.int .i64 t.kind)).setCell ⟨w.heap.size + 1, 1, none⟩ (.slice A1 t.reads.length c1)).setCell ⟨w.heap.size + 1, 2, none⟩ (.slice A2 t.writes.length c2)).setCell ⟨w.heap.size + 1, 3, none⟩ (.slice A3 t.ops.length c3)).setCell ⟨w.heap.size + 1, 4, none⟩ (.int .i64 t.to)).cell? ⟨w.heap.size + 1, 0, none⟩ = some (.int .i64 t.kind) := hbz.cell 0
      have z1 : (((((wr.setCell ⟨w.heap.size + 1, 0, none⟩ (.int .i64 t.kind)).setCell ⟨w.heap.size + 1, 1, none⟩ (.slice A1 t.reads.length c1)).setCell ⟨w.heap.size + 1, 2, none⟩ (.slice A2 t.writes.length c2)).setCell ⟨w.heap.size + 1, 3, none⟩ (.slice A3 t.ops.length c3)).setCell ⟨w.heap.size + 1, 4, none⟩ (.int .i64 t.to)).cell? ⟨w.heap.size + 1, 1, none⟩ = some (.slice A1 t.reads.length c1) := hbz.cell 1
      have z2 : (((((wr.setCell ⟨w.heap.size + 1, 0, none⟩ (.int .i64 t.kind)).setCell ⟨w.heap.size + 1, 1, none⟩ (.slice A1 t.reads.length c1)).setCell ⟨w.heap.size + 1, 2, none⟩ (.slice A2 t.writes.length c2)).setCell ⟨w.heap.size + 1, 3, none⟩ (.slice A3 t.ops.length c3)).setCell ⟨w.heap.size + 1, 4, none⟩ (.int .i64 t.to)).cell? ⟨w.heap.size + 1, 2, none⟩ = some (.slice A2 t.writes.length c2) := hbz.cell 2
      have z3 : (((((wr.setCell ⟨w.heap.size + 1, 0, none⟩ (.int .i64 t.kind)).setCell ⟨w.heap.size + 1, 1, none⟩ (.slice A1 t.reads.length c1)).setCell ⟨w.heap.size + 1, 2, none⟩ (.slice A2 t.writes.length c2)).setCell ⟨w.heap.size + 1, 3, none⟩ (.slice A3 t.ops.length c3)).setCell ⟨w.heap.size + 1, 4, none⟩ (.int .i64 t.to)).cell? ⟨w.heap.size + 1, 3, none⟩ = some (.slice A3 t.ops.length c3) := hbz.cell 3
      have z4 : (((((wr.setCell ⟨w.heap.size + 1, 0, none⟩ (.int .i64 t.kind)).setCell ⟨w.heap.size + 1, 1, none⟩ (.slice A1 t.reads.length c1)).setCell ⟨w.heap.size + 1, 2, none⟩ (.slice A2 t.writes.length c2)).setCell ⟨w.heap.size + 1, 3, none⟩ (.slice A3 t.ops.length c3)).setCell ⟨w.heap.size + 1, 4, none⟩ (.int .i64 t.to)).cell? ⟨w.heap.size + 1, 4, none⟩ = some (.int .i64 t.to) := hbz.cell 4
      refine bodyPost_ret (v := txv ⟨t.kind, A1, c1, t.reads, A2, c2, t.writes, A3, c3, os, t.to⟩) ?_ rfl ⟨_, rfl, PLoop.fin HH.out HT.out ?_⟩
      · have hl := HH.out.like.1
        unfold txv txa
        dsimp only
        rw [hl]
        simp [results, Try.results73, go_sem, z0, z1, z2, z3, z4]
      · exact (((((Fr.refl (fun k => k = w.heap.size + 1) wr).setCell (p := ⟨w.heap.size + 1, 0, none⟩) (fun _ => rfl) _).setCell (p := ⟨w.heap.size + 1, 1, none⟩) (fun _ => rfl) _).setCell (p := ⟨w.heap.size + 1, 2, none⟩) (fun _ => rfl) _).setCell (p := ⟨w.heap.size + 1, 3, none⟩) (fun _ => rfl) _).setCell (p := ⟨w.heap.size + 1, 4, none⟩) (fun _ => rfl) _
end Go.Proofs.Ytdgjjkmgdjiliaa
