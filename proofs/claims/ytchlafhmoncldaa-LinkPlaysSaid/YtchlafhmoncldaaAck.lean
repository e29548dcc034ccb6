/- A link's acknowledged. Conditions: the link lies in blocks of its own. -/
import Derived.Test.YtchlafhmoncldaaDelF
namespace Go.Proofs.Ytchlafhmoncldaa
open Go.RowKit Go.Maps Go.ChangeMaps Go.MapKept Go.WideShapes

set_option maxRecDepth 100000 in
set_option maxHeartbeats 1000000 in
theorem del0_any (w : World) (A : Option Addr) (n c : Nat) (hn : n ≤ c) :
    Calls Try.prog 32 #[.slice A n c, .int .i64 0, .int .i64 0] w fun en w' => en = .returned (.slice A n c) ∧ Fr NoBlk w w' := by
  have hnc' : (n : Int) ≤ (c : Int) := by omega
  have h0n : (0 : Int) ≤ (n : Int) := by omega
  have HF : Hid (Fr NoBlk w w) := Fr.refl _ _
  go_enter Try.func32, Try.ntmps32
  cases A
  all_goals go_wp2_with fail
  all_goals go_ret
  all_goals exact ⟨rfl, HF.out⟩

/-- the first n of a row of rows taken out. -/
theorem del_any (w : World) (A : Option Addr) (n c j : Nat) (xs : List Value) (h : w.ownsRow 0 30 1 (.slice A n c) n xs) (h1 : ∀ u ∈ xs, u.oneCell' = true) (hin : j ≤ n) (hn : n ≤ 1000) :
    Calls Try.prog 32 #[.slice A n c, .int .i64 0, .int .i64 (j : Int)] w fun en w' => en = .returned (.slice A (n - j) c) ∧
      w'.ownsRow 0 30 1 (.slice A (n - j) c) (n - j) (xs.drop j) ∧ Fr (fun k => (Value.slice A n c).ownBlock = some k) w w' := by
  by_cases hj : j = 0
  · subst hj
    refine (del0_any w A n c (own_lens h).1).mono ?_
    rintro e w' ⟨rfl, hf⟩
    exact ⟨rfl, own_fr h hf (fun _ _ h => h), hf.mono fun _ _ h => h.elim⟩
  · rcases h.2 with ⟨hv, h0⟩ | ⟨g, cap, cur, hv, _⟩
    · omega
    · injection hv with e1 _ e3
      subst e1
      refine (delF_any w g n c j xs h h1 (by omega) hin hn).mono ?_
      rintro e w' ⟨rfl, ho, hf⟩
      exact ⟨rfl, ho, hf.mono fun _ _ e => by subst e; rfl⟩

theorem LkIn.dropped {O : Nat → Prop} {W w4 : World} {g : Nat} {L : Lk} (h : LkIn O W g L) {n : Nat} (hn : n ≤ L.sent.length)
    (ho : w4.ownsRow 0 30 1 (.slice L.sa (L.sent.length - n) L.sc) (L.sent.length - n) ((L.sent.map sl).drop n)) (hf : Fr (fun k => (Value.slice L.sa L.sent.length L.sc).ownBlock = some k) W w4) :
    Bk w4 g 70 (lka L) ∧ LkIn O (w4.setCell ⟨g, 3, none⟩ (.slice L.sa (L.sent.length - n) L.sc)) g { L with sent := L.sent.drop n } ∧ Fr (St O W) W (w4.setCell ⟨g, 3, none⟩ (.slice L.sa (L.sent.length - n) L.sc)) := by
  have hb4 : Bk w4 g 70 (lka L) := h.bk.fr hf (fun e => own_apart h.own h.bk (by decide) e)
  have hf5 : Fr (fun k => k = g) w4 (w4.setCell ⟨g, 3, none⟩ (.slice L.sa (L.sent.length - n) L.sc)) := (Fr.refl (fun k => k = g) w4).setCell (p := ⟨g, 3, none⟩) (fun _ => rfl) _
  have hfo : Fr (St O W) W (w4.setCell ⟨g, 3, none⟩ (.slice L.sa (L.sent.length - n) L.sc)) := (hf.mono fun k _ e => h.sts e).step hf5 (fun k hk e => by rw [e]; exact h.stg)
  have hpart : ∀ p, PartO O W p → PartO O (w4.setCell ⟨g, 3, none⟩ (.slice L.sa (L.sent.length - n) L.sc)) p := fun p hp =>
    ⟨own_set (own_fr hp.1 hf fun _ hk e => own_ne h.own hp.1 (by decide) hk e) hb4 (by decide), fun k hk => hp.2 k hk⟩
  have hmap : Kg Try.prog 22 u64l u64ok w4 L.gm L.n (fun k => (L.early k).map sl) := h.map.fr hf (fun e => by
    obtain ⟨es, cl, hh⟩ := h.map.blk
    rcases h.own.2 with ⟨e1, _⟩ | ⟨q, cap, cur, e1, _, h4, _⟩
    · rw [e1] at e; cases e
    · rw [e1] at e
      have e2 : q = L.gm := by simpa [Value.ownBlock] using e
      rw [← e2, h4] at hh
      cases hh)
  have hlen : (L.sent.drop n).length = L.sent.length - n := List.length_drop
  refine ⟨hb4, ⟨?_, ?_, hmap.fr hf5 (fun e => h.map.ne h.bk e.symm), fun p hp => hpart p (h.parts p (List.mem_of_mem_drop hp)), fun k p hp => hpart p (h.eparts k p hp), h.og, h.om, fun b hb => ?_, fun k hk => Nat.lt_of_lt_of_le (h.ol k hk) hfo.size, h.nums, by show (L.sent.drop n).length ≤ _; have := h.few; omega⟩, hfo⟩
  · refine Bk.cast (hb4.put 3 (.slice L.sa (L.sent.length - n) L.sc)) ?_
    unfold lka
    simp only [List.setIfInBounds_toArray, List.set_cons_zero, List.set_cons_succ, hlen]
  · show World.ownsRow _ _ _ _ (.slice L.sa (L.sent.drop n).length L.sc) (L.sent.drop n).length ((L.sent.drop n).map sl)
    rw [hlen, List.map_drop]
    exact own_set ho hb4 (by decide)
  · refine h.os b ?_
    have hb' : (Value.slice L.sa (L.sent.drop n).length L.sc).ownBlock = some b := hb
    rw [hlen] at hb'
    rcases h.own.2 with ⟨e1, e0⟩ | ⟨q, cap, cur, e1, _⟩
    · injection e1 with e1 _ _
      rw [e1] at hb'
      cases hb'
    · injection e1 with e1 _ _
      rw [e1] at hb' ⊢
      exact hb'

def ackN (L : Lk) (last : Nat) : Nat := min ((last - L.base + 1) % 2 ^ 64) L.sent.length
def acked (L : Lk) (last : Nat) : Lk := if last < L.base then L else { L with sent := L.sent.drop (ackN L last), base := (L.base + ackN L last) % 2 ^ 64 }

set_option maxRecDepth 100000 in
set_option maxHeartbeats 2000000 in
theorem ack_any (W : World) (O : Nat → Prop) (g : Nat) (L : Lk) (h : LkIn O W g L) (last : Nat) (hl : last < 2 ^ 64) :
    Calls Try.prog 28 #[.pointer (some ⟨g, 0, none⟩), .int .u64 (last : Int)] W fun e W' => e = .returned (.tuple #[]) ∧ LkIn O W' g (acked L last) ∧ Fr (St O W) W W' := by
  obtain ⟨c0, c1, c2, c3, c4, c5⟩ := h.cells
  obtain ⟨n1, n2, n3, n4⟩ := h.nums
  have hfew := h.few
  have HL := Lib.hid h
  have HA : Hid (acked L last = if last < L.base then L else { L with sent := L.sent.drop (ackN L last), base := (L.base + ackN L last) % 2 ^ 64 }) := rfl
  clear h
  by_cases hb : last < L.base
  · have hb' : (last : Int) < (L.base : Int) := by omega
    have HE : Hid (acked L last = L) := HA.out.trans (if_pos hb)
    clear hb HA
    go_enter Try.func28, Try.ntmps28
    go_wp2_with fail
    refine bodyPost_ret (results_none rfl _ _ _) rfl ?_
    exact ⟨rfl, by rw [HE.out]; exact HL.out, Fr.refl _ _⟩
  have hb' : ¬ (last : Int) < (L.base : Int) := by omega
  have HE := Lib.hid (HA.out.trans (if_neg hb))
  have HN : Hid (L.epoch < 2 ^ 64 ∧ L.peer < 2 ^ 64 ∧ L.expects < 2 ^ 64) := ⟨n1, n2, n4⟩
  obtain ⟨m1, hm1⟩ : ∃ m1, m1 = last - L.base := ⟨_, rfl⟩
  obtain ⟨m2, hm2⟩ : ∃ m2, m2 = (m1 + 1) % 2 ^ 64 := ⟨_, rfl⟩
  have HM : Hid (ackN L last = min m2 L.sent.length) := by show ackN L last = _; rw [hm2, hm1]; rfl
  have a1 : IntKind.u64.wrap ((last : Int) - (L.base : Int)) = (m1 : Int) := by
    simp only [IntKind.wrap, IntKind.bits, IntKind.signed]
    simp
    omega
  have a1' : ((last : Int) - (L.base : Int)) % 18446744073709551616 = (m1 : Int) := by omega
  have a2 : IntKind.u64.wrap ((m1 : Int) + 1) = (m2 : Int) := by
    simp only [IntKind.wrap, IntKind.bits, IntKind.signed]
    simp
    omega
  have a2' : ((m1 : Int) + 1) % 18446744073709551616 = (m2 : Int) := by omega
  have a3 : ((L.sent.length : Int) % 18446744073709551616) = L.sent.length := by omega
  have HDEL : Hid (∀ nn, nn ≤ L.sent.length → Calls Try.prog 32 #[.slice L.sa L.sent.length L.sc, .int .i64 0, .int .i64 (nn : Int)] W.drew fun en w' => en = .returned (.slice L.sa (L.sent.length - nn) L.sc) ∧
      w'.ownsRow 0 30 1 (.slice L.sa (L.sent.length - nn) L.sc) (L.sent.length - nn) ((L.sent.map sl).drop nn) ∧ Fr (fun k => (Value.slice L.sa L.sent.length L.sc).ownBlock = some k) W.drew w') :=
    fun nn hn => del_any W.drew L.sa L.sent.length L.sc nn (L.sent.map sl) (HL.out.nofr (Fr.refl _ _).drew).own (by simp only [List.mem_map]; rintro u ⟨p, _, rfl⟩; rfl) hn (by omega)
  clear hm1 hm2 hb HA
  by_cases hlt : (L.sent.length : Int) < (m2 : Int)
  · have a5 : IntKind.u64.wrap ((L.base : Int) + (L.sent.length : Nat)) = (((L.base + L.sent.length) % 2 ^ 64 : Nat) : Int) := by
      simp only [IntKind.wrap, IntKind.bits, IntKind.signed]
      simp
    have a5' : ((L.base : Int) + (L.sent.length : Nat)) % 18446744073709551616 = (((L.base + L.sent.length) % 2 ^ 64 : Nat) : Int) := by omega
    have HNN : Hid (L.sent.length ≤ L.sent.length) := by show _ ≤ _; omega
    have HMM : Hid (ackN L last = L.sent.length) := by show _ = _; have := HM.out; omega
    obtain ⟨nb, hnb⟩ : ∃ nb, nb = (L.base + L.sent.length) % 2 ^ 64 := ⟨_, rfl⟩
    rw [← hnb] at a5 a5'
    have HNB := Lib.hid hnb
    clear hnb HM n1 n2 n3 n4
    go_enter Try.func28, Try.ntmps28
    go_upto_region 1 with fail
    go_region
    go_wp2_with fail
    refine (HDEL.out _ HNN.out).mono ?_
    rintro e w2 ⟨rfl, ho, hf⟩
    have hd := (HL.out.nofr (Fr.refl NoBlk W).drew).dropped HNN.out ho hf
    have o3 : w2.cell? ⟨g, 3, none⟩ = some (.slice L.sa L.sent.length L.sc) := hd.1.cell 3
    have f3 := hd.1.free 3
    obtain ⟨w3, hw3⟩ : ∃ w3, w3 = w2.setCell ⟨g, 3, none⟩ (.slice L.sa (L.sent.length - L.sent.length) L.sc) := ⟨_, rfl⟩
    have hd2 := hd.2
    rw [← hw3] at hd2
    have hp := hd2.1.put (L' := { L with sent := L.sent.drop L.sent.length, base := nb }) 2 (.int .u64 (nb : Int)) (by unfold lka; simp only [List.setIfInBounds_toArray, List.set_cons_zero, List.set_cons_succ]) rfl ⟨HN.out.1, HN.out.2.1, by show nb < _; rw [HNB.out]; omega, HN.out.2.2⟩
    have HZ : Hid (LkIn O (w3.setCell ⟨g, 2, none⟩ (.int .u64 (nb : Int))) g { L with sent := L.sent.drop L.sent.length, base := nb } ∧ Fr (St O W) W (w3.setCell ⟨g, 2, none⟩ (.int .u64 (nb : Int)))) := ⟨hp.1, (((Fr.refl (St O W) W).drew).stT hd2.2).stT hp.2⟩
    have o2 : w3.cell? ⟨g, 2, none⟩ = some (.int .u64 (L.base : Int)) := hd2.1.bk.cell 2
    have f2 := hd2.1.bk.free 2
    obtain ⟨rr, hrr⟩ : ∃ rr, rr = L.sent.length - L.sent.length := ⟨_, rfl⟩
    rw [← hrr] at hw3 ⊢
    have HW3 := Lib.hid hw3
    clear hrr
    clear hd hd2 hp ho hf HDEL hw3 c0 c1 c2 c3 c4 c5
    go_upto_region 3 with fail
    rw [← HW3.out]
    clear HW3
    go_wp2_with fail
    go_end0
    exact ⟨rfl, by rw [HE.out, HMM.out, ← HNB.out]; exact HZ.out.1, HZ.out.2⟩
  · have a5 : IntKind.u64.wrap ((L.base : Int) + (m2 : Nat)) = (((L.base + m2) % 2 ^ 64 : Nat) : Int) := by
      simp only [IntKind.wrap, IntKind.bits, IntKind.signed]
      simp
    have a5' : ((L.base : Int) + (m2 : Nat)) % 18446744073709551616 = (((L.base + m2) % 2 ^ 64 : Nat) : Int) := by omega
    have HNN : Hid (m2 ≤ L.sent.length) := by show _ ≤ _; omega
    have HMM : Hid (ackN L last = m2) := by show _ = _; have := HM.out; omega
    obtain ⟨nb, hnb⟩ : ∃ nb, nb = (L.base + m2) % 2 ^ 64 := ⟨_, rfl⟩
    rw [← hnb] at a5 a5'
    have HNB := Lib.hid hnb
    clear hnb HM n1 n2 n3 n4
    go_enter Try.func28, Try.ntmps28
    go_upto_region 1 with fail
    go_region
    go_wp2_with fail
    refine (HDEL.out _ HNN.out).mono ?_
    rintro e w2 ⟨rfl, ho, hf⟩
    have hd := (HL.out.nofr (Fr.refl NoBlk W).drew).dropped HNN.out ho hf
    have o3 : w2.cell? ⟨g, 3, none⟩ = some (.slice L.sa L.sent.length L.sc) := hd.1.cell 3
    have f3 := hd.1.free 3
    obtain ⟨w3, hw3⟩ : ∃ w3, w3 = w2.setCell ⟨g, 3, none⟩ (.slice L.sa (L.sent.length - m2) L.sc) := ⟨_, rfl⟩
    have hd2 := hd.2
    rw [← hw3] at hd2
    have hp := hd2.1.put (L' := { L with sent := L.sent.drop m2, base := nb }) 2 (.int .u64 (nb : Int)) (by unfold lka; simp only [List.setIfInBounds_toArray, List.set_cons_zero, List.set_cons_succ]) rfl ⟨HN.out.1, HN.out.2.1, by show nb < _; rw [HNB.out]; omega, HN.out.2.2⟩
    have HZ : Hid (LkIn O (w3.setCell ⟨g, 2, none⟩ (.int .u64 (nb : Int))) g { L with sent := L.sent.drop m2, base := nb } ∧ Fr (St O W) W (w3.setCell ⟨g, 2, none⟩ (.int .u64 (nb : Int)))) := ⟨hp.1, (((Fr.refl (St O W) W).drew).stT hd2.2).stT hp.2⟩
    have o2 : w3.cell? ⟨g, 2, none⟩ = some (.int .u64 (L.base : Int)) := hd2.1.bk.cell 2
    have f2 := hd2.1.bk.free 2
    obtain ⟨rr, hrr⟩ : ∃ rr, rr = L.sent.length - m2 := ⟨_, rfl⟩
    rw [← hrr] at hw3 ⊢
    have HW3 := Lib.hid hw3
    clear hrr
    clear hd hd2 hp ho hf HDEL hw3 c0 c1 c2 c3 c4 c5
    go_upto_region 3 with fail
    rw [← HW3.out]
    clear HW3
    go_wp2_with fail
    go_end0
    exact ⟨rfl, by rw [HE.out, HMM.out, ← HNB.out]; exact HZ.out.1, HZ.out.2⟩
end Go.Proofs.Ytchlafhmoncldaa
