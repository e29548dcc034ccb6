/- The program's Same, whatever two small transactions are. Conditions: the transactions are small. -/
import Derived.Test.YtlnfmojmkejaoaaSame2
namespace Go.Proofs.Ytlnfmojmkejaoaa
open Go.RowKit

set_option maxRecDepth 100000 in
set_option maxHeartbeats 8000000 in
theorem sameP_any (w : World) (t u : Tx) (ht : TxIn w t) (hu : TxIn w u) (hs : Small t) (hs2 : Small u) :
    Calls Try.prog 22 #[txv t, txv u] w fun e w' => e = .returned (.bool (txSame t u)) ∧ Fr NoBlk w w' := by
  have HF : Hid (Fr NoBlk w ((w.alloc (.cells (txa t) 26)).alloc (.cells (txa u) 26))) := ((Fr.refl _ _).alloc _).alloc _
  have HB := Lib.hid ((Bk.new w 26 (txa t)).alloc (.cells (txa u) 26))
  have HB2 := Lib.hid (Bk.new2 w (.cells (txa t) 26) 26 (txa u))
  have K1 := Lib.hid fun W (hf : Fr NoBlk w W) => equalS_any W t.ra u.ra _ _ t.rc u.rc t.reads u.reads rfl rfl (ht.reads.nofr hf) (hu.reads.nofr hf) (Nat.le_trans ht.rl.1 ht.rl.2.1) (Nat.le_trans hu.rl.1 hu.rl.2.1)
  have K2 := Lib.hid fun W (hf : Fr NoBlk w W) => equalS_any W t.wa u.wa _ _ t.wc u.wc t.writes u.writes rfl rfl (ht.writes.nofr hf) (hu.writes.nofr hf) (Nat.le_trans ht.wl.1 ht.wl.2.1) (Nat.le_trans hu.wl.1 hu.wl.2.1)
  have K3 := Lib.hid fun W (hf : Fr NoBlk w W) => equalF_any W t.oa u.oa _ _ t.oc u.oc t.ops u.ops rfl rfl (ht.ops.nofr hf) (hu.ops.nofr hf) (Nat.le_trans ht.ol.1 ht.ol.2.1) (fun x hx => ⟨((ht.vals x hx).1.1).nofr hf, (ht.vals x hx).1.2⟩) (fun x hx => ⟨((hu.vals x hx).1.1).nofr hf, (hu.vals x hx).1.2⟩)
  have HD : Hid (txSame t u = (decide (t.kind = u.kind) && (decide (t.to = u.to) && ((t.reads == u.reads) && ((t.writes == u.writes) && opsSame t.ops u.ops))))) := rfl
  clear ht hu hs hs2
  generalize txSame t u = ans at *
  unfold txa at HF HB HB2
  unfold txv txa
  by_cases hk : t.kind = u.kind
  rotate_left
  · have g1 := bne_yes hk
    have g2 := beq_no hk
    have HQ : Hid (ans = false) := by show _ = _; rw [HD.out, decide_eq_false hk]; rfl
    clear hk
    go_enter Try.func22, Try.ntmps22
    go_wp2_with fail
    go_ret
    exact ⟨by rw [HQ.out]; rfl, HF.out⟩
  have HD := Lib.hid (HD.out.trans (by rw [decide_eq_true hk, Bool.true_and]))
  rw [← hk] at HF HB HB2 ⊢
  clear hk
  by_cases hto : t.to = u.to
  rotate_left
  · have g1 := bne_yes hto
    have g2 := beq_no hto
    have HQ : Hid (ans = false) := by show _ = _; rw [HD.out, decide_eq_false hto]; rfl
    clear hto
    go_enter Try.func22, Try.ntmps22
    go_wp2_with fail
    go_ret
    exact ⟨by rw [HQ.out]; rfl, HF.out⟩
  have HD := Lib.hid (HD.out.trans (by rw [decide_eq_true hto, Bool.true_and]))
  rw [← hto] at HF HB HB2 ⊢
  clear hto
  generalize hb1 : (t.reads == u.reads) = b1 at K1
  generalize hb2 : (t.writes == u.writes) = b2 at K2
  generalize hb3 : opsSame t.ops u.ops = b3 at K3
  have HD := Lib.hid (HD.out.trans (by rw [hb1, hb2, hb3]))
  clear hb1 hb2 hb3
  go_enter Try.func22, Try.ntmps22
  go_wp2_with fail
  refine (K1.out _ HF.out).mono ?_
  rintro e w1 ⟨rfl, hf1⟩
  have HF1 := Lib.hid (HF.out.trans hf1)
  have HB1 := Lib.hid (HB.out.fr hf1 (fun h => h))
  have HC1 := Lib.hid (HB2.out.fr hf1 (fun h => h))
  have c2 : w1.cell? ⟨w.heap.size, 2, none⟩ = some (.slice t.wa t.writes.length t.wc) := HB1.out.cell 2
  have d2 : w1.cell? ⟨w.heap.size + 1, 2, none⟩ = some (.slice u.wa u.writes.length u.wc) := HC1.out.cell 2
  clear hf1 HB HB2 HF
  cases b1
  · have HQ : Hid (ans = false) := by show _ = _; rw [HD.out]; rfl
    go_wp2_with fail
    go_ret
    exact ⟨by rw [HQ.out]; rfl, HF1.out⟩
  go_wp2_with fail
  refine (K2.out _ HF1.out).mono ?_
  rintro e w2 ⟨rfl, hf2⟩
  have HF2 := Lib.hid (HF1.out.trans hf2)
  have HB2 := Lib.hid (HB1.out.fr hf2 (fun h => h))
  have HC2 := Lib.hid (HC1.out.fr hf2 (fun h => h))
  have c3 : w2.cell? ⟨w.heap.size, 3, none⟩ = some (.slice t.oa t.ops.length t.oc) := HB2.out.cell 3
  have d3 : w2.cell? ⟨w.heap.size + 1, 3, none⟩ = some (.slice u.oa u.ops.length u.oc) := HC2.out.cell 3
  clear hf2 HB1 HC1 HF1 c2 d2 K1 K2
  cases b2
  · have HQ : Hid (ans = false) := by show _ = _; rw [HD.out]; rfl
    go_wp2_with fail
    go_ret
    exact ⟨by rw [HQ.out]; rfl, HF2.out⟩
  have HQ : Hid (ans = b3) := HD.out.trans (by rw [Bool.true_and, Bool.true_and])
  go_wp2_with fail
  refine (K3.out _ HF2.out).mono ?_
  rintro e w3 ⟨rfl, hf3⟩
  have HF3 := Lib.hid (HF2.out.trans hf3)
  clear hf3
  go_wp2_with fail
  go_ret
  exact ⟨by rw [HQ.out]; rfl, HF3.out⟩
end Go.Proofs.Ytlnfmojmkejaoaa
