/- When the law reads a message: just the bytes that are written of one. Plain mathematics, no condition. -/
import Derived.Test.YtdpjmkgjjhcgeaaDoorDRdP
namespace Go.Proofs.YtdpjmkgjjhcgeaaDoor
open Go.RowKit

def NumsOk (m : Mg) : Prop := m.ballot < two64 ∧ ∀ v ∈ m.votes, v.ballot < two64
def restK (l : List UInt8) (k : Nat) : List UInt8 := (rep rVote k (rest8 l)).2
def cntR (l : List UInt8) : Nat := (rN (rT (it 6 l)).2).1
/-- the law's test at the end: how many votes it read, where it stood then. -/
structure OkR (l : List UInt8) (k p : Nat) : Prop where
  bad : bad8 l + errs k (rest8 l) = 0
  sum : errN (restK l k) = 0
  fin : (rN (restK l k)).2 = []
  val : (rN (restK l k)).1 = sumN (l.take p)
  rgt : rightM (mR l k none 0) = true

theorem flat_congr {α : Type} {f g : α → List UInt8} : ∀ (xs : List α), (∀ x ∈ xs, f x = g x) → xs.flatMap f = xs.flatMap g
  | [], _ => rfl
  | x :: t, h => by rw [List.flatMap_cons, List.flatMap_cons, h x (List.mem_cons_self ..), flat_congr t fun y hy => h y (List.mem_cons_of_mem _ hy)]
section
variable (l : List UInt8) (k : Nat) (A : Option Addr) (c : Nat)
theorem mR_kind : (mR l k A c).kind = fewI (vl 0 l) 9 := by simp only [mR]
theorem mR_frm : (mR l k A c).frm = fewI (vl 1 l) 8 := by simp only [mR]
theorem mR_dst : (mR l k A c).dst = fewI (vl 2 l) 8 := by simp only [mR]
theorem mR_grp : (mR l k A c).grp = fewI (vl 3 l) 3 := by simp only [mR]
theorem mR_slot : (mR l k A c).slot = fewI (vl 4 l) 64 := by simp only [mR]
theorem mR_ballot : (mR l k A c).ballot = vl 5 l := by simp only [mR]
theorem mR_value : (mR l k A c).value = (rT (it 6 l)).1 := by simp only [mR]
theorem mR_votes : (mR l k A c).votes = (rep rVote k (rest8 l)).1.map vr := by simp only [mR, rest8]
end
theorem mR_like (l : List UInt8) (k : Nat) (A A' : Option Addr) (c c' : Nat) : MLike (mR l k A c) (mR l k A' c') :=
  ⟨by rw [mR_kind, mR_kind], by rw [mR_frm, mR_frm], by rw [mR_dst, mR_dst], by rw [mR_grp, mR_grp], by rw [mR_slot, mR_slot], by rw [mR_ballot, mR_ballot], by rw [mR_value, mR_value], by rw [mR_votes, mR_votes]⟩
theorem voteB_vr {p : PV} (h : (vr p).slot ≤ 63) : voteB (vr p) = pvB p := by
  have h1 : fewI p.slot 63 ≤ ((63 : Nat) : Int) := h
  have h2 := (fewI_eq h1).1
  unfold voteB vr pvB
  dsimp only
  rw [h2]
  rfl
theorem OkR.eq {l : List UInt8} {k p : Nat} (h : OkR l k p) (hk : k = cntR l) (hp : l.drop p = restK l k) : l = msgB (mR l k none 0) ∧ NumsOk (mR l k none 0) := by
  have hb := h.bad
  unfold bad8 at hb
  obtain ⟨a1, _, a3⟩ := canon6 (l := l) (by omega)
  obtain ⟨t1, t2, _⟩ := canonT (r := it 6 l) (by omega)
  obtain ⟨n1, n2, _⟩ := canonN (r := (rT (it 6 l)).2) (by omega)
  obtain ⟨v1, v2, v3⟩ := canonVs (rest8 l) k (by omega)
  obtain ⟨s1, _, _⟩ := canonN h.sum
  rw [h.fin, List.append_nil, h.val] at s1
  have w := rightM_wmg h.rgt
  have f0 : fewI (vl 0 l) 9 = (vl 0 l : Int) := (fewI_eq (by rw [← mR_kind l k none 0]; exact w.kind.2)).1
  have f1 : fewI (vl 1 l) 8 = (vl 1 l : Int) := (fewI_eq (by rw [← mR_frm l k none 0]; exact w.frm.2)).1
  have f2 : fewI (vl 2 l) 8 = (vl 2 l : Int) := (fewI_eq (by rw [← mR_dst l k none 0]; exact w.dst.2)).1
  have f3 : fewI (vl 3 l) 3 = (vl 3 l : Int) := (fewI_eq (by rw [← mR_grp l k none 0]; exact w.grp.2)).1
  have f4 : fewI (vl 4 l) 64 = (vl 4 l : Int) := (fewI_eq (by rw [← mR_slot l k none 0]; exact w.slot.2)).1
  have hvs : (mR l k none 0).votes.flatMap voteB = (rep rVote k (rest8 l)).1.flatMap pvB := by
    rw [mR_votes, List.flatMap_map]
    refine flat_congr _ fun p hp => ?_
    exact voteB_vr (w.votes (vr p) (by rw [mR_votes]; exact List.mem_map_of_mem hp)).2.1
  have hbody : l = bodyB (mR l k none 0) ++ restK l k := by
    unfold bodyB headB
    rw [hvs]
    have e0 : (mR l k none 0).kind.toNat = vl 0 l := by rw [mR_kind, f0]; exact Int.toNat_natCast _
    have e1 : (mR l k none 0).frm.toNat = vl 1 l := by rw [mR_frm, f1]; exact Int.toNat_natCast _
    have e2 : (mR l k none 0).dst.toNat = vl 2 l := by rw [mR_dst, f2]; exact Int.toNat_natCast _
    have e3 : (mR l k none 0).grp.toNat = vl 3 l := by rw [mR_grp, f3]; exact Int.toNat_natCast _
    have e4 : (mR l k none 0).slot.toNat = vl 4 l := by rw [mR_slot, f4]; exact Int.toNat_natCast _
    have e5 := mR_ballot l k none 0
    have e6 := mR_value l k none 0
    have e7 : (mR l k none 0).votes.length = cntR l := by
      rw [mR_votes, List.length_map, rep_len, hk]
    rw [e0, e1, e2, e3, e4, e5, e6, e7]
    unfold nums
    simp only [List.flatMap_cons, List.flatMap_nil, List.append_nil, List.append_assoc]
    show l = num (vl 0 l) ++ (num (vl 1 l) ++ (num (vl 2 l) ++ (num (vl 3 l) ++ (num (vl 4 l) ++ (num (vl 5 l) ++ (textB (rT (it 6 l)).1 ++ (num (cntR l) ++ ((rep rVote k (rest8 l)).1.flatMap pvB ++ (rep rVote k (rest8 l)).2))))))))
    rw [← v1]
    show l = num (vl 0 l) ++ (num (vl 1 l) ++ (num (vl 2 l) ++ (num (vl 3 l) ++ (num (vl 4 l) ++ (num (vl 5 l) ++ (textB (rT (it 6 l)).1 ++ (num (rN (rT (it 6 l)).2).1 ++ (rN (rT (it 6 l)).2).2)))))))
    rw [← n1, ← t1]
    exact a1
  have htake : l.take p = bodyB (mR l k none 0) := by
    have h1 : l.take p ++ restK l k = bodyB (mR l k none 0) ++ restK l k := by
      rw [← hp, List.take_append_drop, hp]
      exact hbody
    exact List.append_cancel_right h1
  refine ⟨?_, ?_, ?_⟩
  · unfold msgB
    rw [← htake, ← s1, htake]
    exact hbody
  · rw [mR_ballot]
    unfold two64
    omega
  · intro v hv
    rw [mR_votes] at hv
    obtain ⟨p, hp, rfl⟩ := List.mem_map.1 hv
    have := v3 p hp
    show p.ballot < two64
    unfold two64
    omega

theorem rep_part (xs : List Vt) (hx : ∀ v ∈ xs, 0 ≤ v.slot ∧ v.slot ≤ 63 ∧ v.value.length ≤ 4096) (hb : ∀ v ∈ xs, v.ballot < two64) (tail : List UInt8) (k : Nat) (hk : k ≤ xs.length) : rep rVote k (xs.flatMap voteB ++ tail) = ((xs.take k).map PV.of, (xs.drop k).flatMap voteB ++ tail) := by
  have h := rep_app rVote voteB PV.of (xs.take k) (fun v hv r => rVote_app v (hx v (List.mem_of_mem_take hv)) (hb v (List.mem_of_mem_take hv)) r) ((xs.drop k).flatMap voteB ++ tail)
  rw [List.length_take, Nat.min_eq_left hk] at h
  rw [← h, ← List.append_assoc, ← List.flatMap_append, List.take_append_drop]
theorem errV_app (v : Vt) (hs : 0 ≤ v.slot ∧ v.slot ≤ 63 ∧ v.value.length ≤ 4096) (hb : v.ballot < two64) (r : List UInt8) : errV (voteB v ++ r) = 0 := by
  unfold two64 at hb
  unfold errV r1 voteB
  rw [List.append_assoc, List.append_assoc, errN_app _ (by omega), rN_app _ (by omega)]
  dsimp only
  rw [errN_app _ (by omega), rN_app _ (by omega)]
  dsimp only
  rw [errT_app _ (by omega)]
theorem errs_part (xs : List Vt) (hx : ∀ v ∈ xs, 0 ≤ v.slot ∧ v.slot ≤ 63 ∧ v.value.length ≤ 4096) (hb : ∀ v ∈ xs, v.ballot < two64) (tail : List UInt8) : ∀ k, k ≤ xs.length → errs k (xs.flatMap voteB ++ tail) = 0
  | 0, _ => rfl
  | k + 1, hk => by
    unfold errs
    rw [errs_part xs hx hb tail k (by omega), rep_part xs hx hb tail k (by omega)]
    dsimp only
    rw [List.drop_eq_getElem_cons (by omega), List.flatMap_cons, List.append_assoc, errV_app _ (hx _ (List.getElem_mem _)) (hb _ (List.getElem_mem _))]

theorem vr_of (v : Vt) (h0 : 0 ≤ v.slot) (h1 : v.slot ≤ 63) : vr (PV.of v) = v := by
  obtain ⟨s, b, x⟩ := v
  dsimp only at h0 h1
  have e : fewI s.toNat 63 = s := by rw [fewI_low (by omega)]; omega
  unfold vr PV.of
  dsimp only
  rw [e]
/-- what the law reads of a message's own bytes. -/
structure Reads (l : List UInt8) (q : Mg) : Prop where
  bad : bad8 l = 0
  cnt : cntR l = q.votes.length
  errs : ∀ k, k ≤ q.votes.length → errs k (rest8 l) = 0
  ok : ∀ p, l.drop p = restK l q.votes.length → OkR l q.votes.length p
theorem reads_of {l : List UInt8} {q : Mg} (hq : rightM q = true) (nq : NumsOk q) (hl : l = msgB q) : Reads l q := by
  have w := rightM_wmg hq
  have hb := nq.1
  unfold two64 at hb
  have k1 := w.kind; have k2 := w.frm; have k3 := w.dst; have k4 := w.grp; have k5 := w.slot; have k6 := w.value; have k7 := w.few
  obtain ⟨T0, hT0⟩ : ∃ T0, T0 = num (sumN (bodyB q)) := ⟨_, rfl⟩
  obtain ⟨T8, hT8⟩ : ∃ T, T = q.votes.flatMap voteB ++ T0 := ⟨_, rfl⟩
  obtain ⟨T7, hT7⟩ : ∃ T, T = num q.votes.length ++ T8 := ⟨_, rfl⟩
  obtain ⟨T6, hT6⟩ : ∃ T, T = textB q.value ++ T7 := ⟨_, rfl⟩
  obtain ⟨T5, hT5⟩ : ∃ T, T = num q.ballot ++ T6 := ⟨_, rfl⟩
  obtain ⟨T4, hT4⟩ : ∃ T, T = num q.slot.toNat ++ T5 := ⟨_, rfl⟩
  obtain ⟨T3, hT3⟩ : ∃ T, T = num q.grp.toNat ++ T4 := ⟨_, rfl⟩
  obtain ⟨T2, hT2⟩ : ∃ T, T = num q.dst.toNat ++ T3 := ⟨_, rfl⟩
  obtain ⟨T1, hT1⟩ : ∃ T, T = num q.frm.toNat ++ T2 := ⟨_, rfl⟩
  have e : l = num q.kind.toNat ++ T1 := by
    rw [hl, hT1, hT2, hT3, hT4, hT5, hT6, hT7, hT8, hT0]
    unfold msgB
    conv => lhs; lhs; unfold bodyB headB nums
    simp only [List.flatMap_cons, List.flatMap_nil, List.append_nil, List.append_assoc]
  have i0 : it 0 l = num q.kind.toNat ++ T1 := e
  have g0 : rN (it 0 l) = (q.kind.toNat, T1) := by rw [i0]; exact rN_app _ (by omega) _
  have z0 : errN (it 0 l) = 0 := by rw [i0]; exact errN_app _ (by omega) _
  have i1 : it 1 l = num q.frm.toNat ++ T2 := by
    show (rN (it 0 l)).2 = _
    rw [g0]
    exact hT1
  have g1 : rN (it 1 l) = (q.frm.toNat, T2) := by rw [i1]; exact rN_app _ (by omega) _
  have z1 : errN (it 1 l) = 0 := by rw [i1]; exact errN_app _ (by omega) _
  have i2 : it 2 l = num q.dst.toNat ++ T3 := by
    show (rN (it 1 l)).2 = _
    rw [g1]
    exact hT2
  have g2 : rN (it 2 l) = (q.dst.toNat, T3) := by rw [i2]; exact rN_app _ (by omega) _
  have z2 : errN (it 2 l) = 0 := by rw [i2]; exact errN_app _ (by omega) _
  have i3 : it 3 l = num q.grp.toNat ++ T4 := by
    show (rN (it 2 l)).2 = _
    rw [g2]
    exact hT3
  have g3 : rN (it 3 l) = (q.grp.toNat, T4) := by rw [i3]; exact rN_app _ (by omega) _
  have z3 : errN (it 3 l) = 0 := by rw [i3]; exact errN_app _ (by omega) _
  have i4 : it 4 l = num q.slot.toNat ++ T5 := by
    show (rN (it 3 l)).2 = _
    rw [g3]
    exact hT4
  have g4 : rN (it 4 l) = (q.slot.toNat, T5) := by rw [i4]; exact rN_app _ (by omega) _
  have z4 : errN (it 4 l) = 0 := by rw [i4]; exact errN_app _ (by omega) _
  have i5 : it 5 l = num q.ballot ++ T6 := by
    show (rN (it 4 l)).2 = _
    rw [g4]
    exact hT5
  have g5 : rN (it 5 l) = (q.ballot, T6) := by rw [i5]; exact rN_app _ (by omega) _
  have z5 : errN (it 5 l) = 0 := by rw [i5]; exact errN_app _ (by omega) _
  have i6 : it 6 l = textB q.value ++ T7 := by
    show (rN (it 5 l)).2 = _
    rw [g5]
    exact hT6
  have g6 : rT (it 6 l) = (q.value, T7) := by rw [i6]; exact rT_app _ (by omega) _
  have z6 : errT (it 6 l) = 0 := by rw [i6]; exact errT_app _ (by omega) _
  have g7 : rN (rT (it 6 l)).2 = (q.votes.length, T8) := by rw [g6, hT7]; exact rN_app _ (by omega) _
  have z7 : errN (rT (it 6 l)).2 = 0 := by rw [g6, hT7]; exact errN_app _ (by omega) _
  have r8 : rest8 l = q.votes.flatMap voteB ++ T0 := by unfold rest8; rw [g7]; exact hT8
  have hbad : bad8 l = 0 := by
    show (0 + errN (it 0 l) + errN (it 1 l) + errN (it 2 l) + errN (it 3 l) + errN (it 4 l) + errN (it 5 l)) + (errT (it 6 l) + errN (rT (it 6 l)).2) = 0
    rw [z0, z1, z2, z3, z4, z5, z6, z7]
  have herr : ∀ k, k ≤ q.votes.length → Go.Proofs.YtdpjmkgjjhcgeaaDoor.errs k (rest8 l) = 0 := fun k hk => by rw [r8]; exact errs_part q.votes w.votes nq.2 T0 k hk
  have hrep : rep rVote q.votes.length (rest8 l) = (q.votes.map PV.of, T0) := by
    rw [r8, rep_part q.votes w.votes nq.2 T0 _ (Nat.le_refl _), List.take_length, List.drop_length]
    rfl
  have hrk : restK l q.votes.length = T0 := by unfold restK; rw [hrep]
  have hs := sumN_lt (bodyB q)
  have hsr : rN T0 = (sumN (bodyB q), []) := by
    have := rN_app (sumN (bodyB q)) (by omega) []
    rw [List.append_nil] at this
    rw [hT0]; exact this
  have hse : errN T0 = 0 := by
    have := errN_app (sumN (bodyB q)) (by omega) []
    rw [List.append_nil] at this
    rw [hT0]; exact this
  refine ⟨hbad, by unfold cntR; rw [g7], herr, fun p hp => ⟨by rw [hbad, herr _ (Nat.le_refl _)], by rw [hrk]; exact hse, by rw [hrk, hsr], ?_, ?_⟩⟩
  · rw [hrk, hsr]
    have h1 : l.take p ++ T0 = bodyB q ++ T0 := by
      rw [← hrk, ← hp, List.take_append_drop, hp, hrk, hT0]
      exact hl
    rw [List.append_cancel_right h1]
  · have hl2 : MLike (mR l q.votes.length none 0) q := by
      have t0 : vl 0 l = q.kind.toNat := by unfold vl; rw [g0]
      have t1 : vl 1 l = q.frm.toNat := by unfold vl; rw [g1]
      have t2 : vl 2 l = q.dst.toNat := by unfold vl; rw [g2]
      have t3 : vl 3 l = q.grp.toNat := by unfold vl; rw [g3]
      have t4 : vl 4 l = q.slot.toNat := by unfold vl; rw [g4]
      have t5 : vl 5 l = q.ballot := by unfold vl; rw [g5]
      refine ⟨?_, ?_, ?_, ?_, ?_, by rw [mR_ballot, t5], ?_, ?_⟩
      · rw [mR_kind, t0, fewI_low (by omega)]; omega
      · rw [mR_frm, t1, fewI_low (by omega)]; omega
      · rw [mR_dst, t2, fewI_low (by omega)]; omega
      · rw [mR_grp, t3, fewI_low (by omega)]; omega
      · rw [mR_slot, t4, fewI_low (by omega)]; omega
      · rw [mR_value, g6]
      · rw [mR_votes, hrep]
        dsimp only
        rw [List.map_map]
        conv => rhs; rw [← List.map_id q.votes]
        refine List.map_congr_left fun v hv => ?_
        exact vr_of v (w.votes v hv).1 (w.votes v hv).2.1
    rw [hl2.right]
    exact hq
end Go.Proofs.YtdpjmkgjjhcgeaaDoor
