/- A message's bytes read back: the decoder, plain mathematics. No condition. -/
import Derived.Test.YtdpjmkgjjhcgeaaDoorMsg
import Derived.Test.YtdpjmkgjjhcgeaaDoorNum2
namespace Go.Proofs.YtdpjmkgjjhcgeaaDoor
open Go.RowKit

def rN (l : List UInt8) : Nat × List UInt8 := ((rdNum l).1, l.drop (rdNum l).2.1)
def rT (l : List UInt8) : Bs × List UInt8 := ((rdText l).1, l.drop (rdText l).2.1)
theorem rN_app (n : Nat) (h : n < 2 ^ 64) (r : List UInt8) : rN (num n ++ r) = (n, r) := by
  unfold rN
  rw [rdNum_app n r h]
  simp
theorem rT_app (t : Bs) (h : t.length < 2 ^ 64) (r : List UInt8) : rT (textB t ++ r) = (t, r) := by
  unfold rT rdText textB
  rw [List.append_assoc, rdNum_app _ _ h]
  simp only [if_pos]
  rw [if_neg (by simp only [List.length_append]; omega)]
  simp
theorem rN_lt (l : List UInt8) : (rN l).1 < 2 ^ 64 := rdNum_lt l
theorem rN_len (l : List UInt8) : (rN l).2.length ≤ l.length := by unfold rN; rw [List.length_drop]; omega
theorem rT_len (l : List UInt8) : (rT l).1.length ≤ l.length ∧ (rT l).2.length ≤ l.length := by
  unfold rT
  refine ⟨?_, by rw [List.length_drop]; omega⟩
  unfold rdText
  split
  · split
    · simp
    · simp only [List.length_take, List.length_drop]; omega
  · simp
/-- so many things, one behind the other. -/
def rep {α : Type} (f : List UInt8 → α × List UInt8) : Nat → List UInt8 → List α × List UInt8
  | 0, l => ([], l)
  | k + 1, l => ((f l).1 :: (rep f k (f l).2).1, (rep f k (f l).2).2)
theorem rep_app {α β : Type} (f : List UInt8 → α × List UInt8) (g : β → List UInt8) (d : β → α) (xs : List β) (h : ∀ x ∈ xs, ∀ r, f (g x ++ r) = (d x, r)) (r : List UInt8) : rep f xs.length (xs.flatMap g ++ r) = (xs.map d, r) := by
  induction xs with
  | nil => rfl
  | cons x t ih =>
    have ih' := ih fun y hy => h y (List.mem_cons_of_mem _ hy)
    simp only [List.length_cons, rep, List.flatMap_cons, List.append_assoc, h x (List.mem_cons_self ..), List.map_cons, ih']
theorem rep_len {α : Type} (f : List UInt8 → α × List UInt8) : ∀ k l, (rep f k l).1.length = k
  | 0, _ => rfl
  | k + 1, l => by simp only [rep, List.length_cons, rep_len f k]
theorem rep_all {α : Type} (f : List UInt8 → α × List UInt8) (P : α → Prop) (L : Nat) (h : ∀ l, l.length ≤ L → P (f l).1 ∧ (f l).2.length ≤ L) : ∀ (k : Nat) (l : List UInt8), l.length ≤ L → (∀ x ∈ (rep f k l).1, P x) ∧ (rep f k l).2.length ≤ L
  | 0, _, hl => ⟨fun x hx => (by cases hx), hl⟩
  | k + 1, l, hl => by
    have h1 := h l hl
    have h2 := rep_all f P L h k (f l).2 h1.2
    simp only [rep]
    refine ⟨fun x hx => ?_, h2.2⟩
    rcases List.mem_cons.1 hx with rfl | hx
    · exact h1.1
    · exact h2.1 x hx
theorem rep_snoc {α : Type} (f : List UInt8 → α × List UInt8) : ∀ (k : Nat) (l : List UInt8), rep f (k + 1) l = ((rep f k l).1 ++ [(f (rep f k l).2).1], (f (rep f k l).2).2)
  | 0, l => rfl
  | k + 1, l => by
    have := rep_snoc f k (f l).2
    rw [rep, this]
    rfl

/-- a vote as its bytes tell it. -/
structure PV where
  slot : Nat
  ballot : Nat
  value : Bs
def rVote (l : List UInt8) : PV × List UInt8 := (⟨(rN l).1, (rN (rN l).2).1, (rT (rN (rN l).2).2).1⟩, (rT (rN (rN l).2).2).2)
/-- a message as its bytes tell it. -/
structure PM where
  kind : Nat
  frm : Nat
  dst : Nat
  grp : Nat
  slot : Nat
  ballot : Nat
  value : Bs
  votes : List PV
def r1 (l : List UInt8) : List UInt8 := (rN l).2
def rMsg (l : List UInt8) : PM × List UInt8 :=
  (⟨(rN l).1, (rN (r1 l)).1, (rN (r1 (r1 l))).1, (rN (r1 (r1 (r1 l)))).1, (rN (r1 (r1 (r1 (r1 l))))).1, (rN (r1 (r1 (r1 (r1 (r1 l)))))).1,
    (rT (r1 (r1 (r1 (r1 (r1 (r1 l))))))).1,
    (rep rVote (min (rN (rT (r1 (r1 (r1 (r1 (r1 (r1 l))))))).2).1 64) (r1 (rT (r1 (r1 (r1 (r1 (r1 (r1 l))))))).2)).1⟩,
   (rep rVote (min (rN (rT (r1 (r1 (r1 (r1 (r1 (r1 l))))))).2).1 64) (r1 (rT (r1 (r1 (r1 (r1 (r1 (r1 l))))))).2)).2)

def PV.of (v : Vt) : PV := ⟨v.slot.toNat, v.ballot, v.value⟩
def PM.of (m : Mg) : PM := ⟨m.kind.toNat, m.frm.toNat, m.dst.toNat, m.grp.toNat, m.slot.toNat, m.ballot, m.value, m.votes.map PV.of⟩

theorem rVote_app (v : Vt) (hs : 0 ≤ v.slot ∧ v.slot ≤ 63 ∧ v.value.length ≤ 4096) (hb : v.ballot < two64) (r : List UInt8) : rVote (voteB v ++ r) = (PV.of v, r) := by
  unfold two64 at hb
  unfold rVote voteB PV.of
  simp only [List.append_assoc, rN_app _ (show v.slot.toNat < 2 ^ 64 by omega), rN_app _ (show v.ballot < 2 ^ 64 by omega), rT_app _ (show v.value.length < 2 ^ 64 by omega)]
theorem rMsg_app {m : Mg} (hw : WMg m) (hn : m.ballot < two64 ∧ ∀ v ∈ m.votes, v.ballot < two64) (r : List UInt8) : rMsg (bodyB m ++ r) = (PM.of m, r) := by
  have hb := hn.1
  unfold two64 at hb
  have k1 := hw.kind; have k2 := hw.frm; have k3 := hw.dst; have k4 := hw.grp; have k5 := hw.slot; have k6 := hw.value; have k7 := hw.few
  have e1 := fun q => rN_app m.kind.toNat (by omega) q
  have e2 := fun q => rN_app m.frm.toNat (by omega) q
  have e3 := fun q => rN_app m.dst.toNat (by omega) q
  have e4 := fun q => rN_app m.grp.toNat (by omega) q
  have e5 := fun q => rN_app m.slot.toNat (by omega) q
  have e6 := fun q => rN_app m.ballot (by omega) q
  have e7 := fun q => rT_app m.value (by omega) q
  have e8 := fun q => rN_app m.votes.length (by omega) q
  have e9 := fun q => rep_app rVote voteB PV.of m.votes (fun v hv r => rVote_app v (hw.votes v hv) (hn.2 v hv) r) q
  have e0 : min m.votes.length 64 = m.votes.length := Nat.min_eq_left k7
  unfold rMsg r1 bodyB headB nums PM.of
  simp only [List.flatMap_cons, List.flatMap_nil, List.append_nil, List.append_assoc, e1, e2, e3, e4, e5, e6, e7, e8, e9, e0]

/-- two messages are one, by value. -/
structure MLike (a b : Mg) : Prop where
  kind : a.kind = b.kind
  frm : a.frm = b.frm
  dst : a.dst = b.dst
  grp : a.grp = b.grp
  slot : a.slot = b.slot
  ballot : a.ballot = b.ballot
  value : a.value = b.value
  votes : a.votes = b.votes
theorem MLike.refl (a : Mg) : MLike a a := ⟨rfl, rfl, rfl, rfl, rfl, rfl, rfl, rfl⟩
theorem MLike.symm {a b : Mg} (h : MLike a b) : MLike b a := ⟨h.kind.symm, h.frm.symm, h.dst.symm, h.grp.symm, h.slot.symm, h.ballot.symm, h.value.symm, h.votes.symm⟩
theorem PV.inj {xs ys : List Vt} (hx : ∀ v ∈ xs, 0 ≤ v.slot) (hy : ∀ v ∈ ys, 0 ≤ v.slot) (h : xs.map PV.of = ys.map PV.of) : xs = ys := by
  induction xs generalizing ys with
  | nil =>
    cases ys with
    | nil => rfl
    | cons y t => cases h
  | cons x t ih =>
    cases ys with
    | nil => cases h
    | cons y s =>
      simp only [List.map_cons, List.cons.injEq] at h
      obtain ⟨h1, h2⟩ := h
      have p := hx x (List.mem_cons_self ..)
      have q := hy y (List.mem_cons_self ..)
      have e : x = y := by
        obtain ⟨xs, xb, xv⟩ := x
        obtain ⟨ys, yb, yv⟩ := y
        unfold PV.of at h1
        simp only [PV.mk.injEq] at h1
        obtain ⟨h3, rfl, rfl⟩ := h1
        have : xs = ys := by dsimp only at p q; omega
        rw [this]
      rw [e, ih (fun v hv => hx v (List.mem_cons_of_mem _ hv)) (fun v hv => hy v (List.mem_cons_of_mem _ hv)) h2]
theorem PM.inj {a b : Mg} (wa : WMg a) (wb : WMg b) (h : PM.of a = PM.of b) : MLike a b := by
  unfold PM.of at h
  simp only [PM.mk.injEq] at h
  obtain ⟨h1, h2, h3, h4, h5, h6, h7, h8⟩ := h
  have a1 := wa.kind; have a2 := wa.frm; have a3 := wa.dst; have a4 := wa.grp; have a5 := wa.slot
  have b1 := wb.kind; have b2 := wb.frm; have b3 := wb.dst; have b4 := wb.grp; have b5 := wb.slot
  exact ⟨by omega, by omega, by omega, by omega, by omega, h6, h7, PV.inj (fun v hv => (wa.votes v hv).1) (fun v hv => (wb.votes v hv).1) h8⟩
theorem MLike.body {a b : Mg} (h : MLike a b) : bodyB a = bodyB b := by
  unfold bodyB headB
  rw [h.kind, h.frm, h.dst, h.grp, h.slot, h.ballot, h.value, h.votes]
theorem MLike.msg {a b : Mg} (h : MLike a b) : msgB a = msgB b := by unfold msgB; rw [h.body]
theorem MLike.right {a b : Mg} (h : MLike a b) : rightM a = rightM b := by
  unfold rightM rightN rightV rightVs
  rw [h.kind, h.frm, h.dst, h.grp, h.slot, h.value, h.votes]
/-- no message's bytes begin with another's. -/
theorem msgB_pre {a b : Mg} (wa : WMg a) (wb : WMg b) (na : a.ballot < two64 ∧ ∀ v ∈ a.votes, v.ballot < two64) (nb : b.ballot < two64 ∧ ∀ v ∈ b.votes, v.ballot < two64) {r s : List UInt8} (h : msgB a ++ r = msgB b ++ s) : MLike a b ∧ r = s := by
  unfold msgB at h
  rw [List.append_assoc, List.append_assoc] at h
  have h1 := rMsg_app wa na (num (sumN (bodyB a)) ++ r)
  rw [h, rMsg_app wb nb _] at h1
  injection h1 with h2 h3
  have hl := PM.inj wa wb h2.symm
  refine ⟨hl, ?_⟩
  rw [hl.body] at h
  exact List.append_cancel_left (List.append_cancel_left h)
theorem msgB_inj {a b : Mg} (wa : WMg a) (wb : WMg b) (na : a.ballot < two64 ∧ ∀ v ∈ a.votes, v.ballot < two64) (nb : b.ballot < two64 ∧ ∀ v ∈ b.votes, v.ballot < two64) : msgB a = msgB b ↔ MLike a b :=
  ⟨fun h => (msgB_pre wa wb na nb (r := []) (s := []) (by rw [h])).1, fun h => h.msg⟩

/- what the program's reader has read. -/
def sm (n : Nat) : Int := wrap64 (n : Int)
theorem sm_low {n : Nat} (h : n < 2 ^ 63) : sm n = (n : Int) := by unfold sm wrap64; omega
theorem sm_nB (n : Nat) : nB (sm n) := by unfold nB sm wrap64; omega
def Vt.of (p : PV) : Vt := ⟨sm p.slot, p.ballot, p.value⟩
structure MOf (m : Mg) (p : PM) : Prop where
  kind : m.kind = sm p.kind
  frm : m.frm = sm p.frm
  dst : m.dst = sm p.dst
  grp : m.grp = sm p.grp
  slot : m.slot = sm p.slot
  ballot : m.ballot = p.ballot
  value : m.value = p.value
  votes : m.votes = p.votes.map Vt.of
theorem mOf_like {a b : Mg} (wa : WMg a) (h : MOf b (PM.of a)) : MLike b a := by
  have a1 := wa.kind; have a2 := wa.frm; have a3 := wa.dst; have a4 := wa.grp; have a5 := wa.slot
  have hsm : ∀ z : Int, 0 ≤ z ∧ z ≤ 1000 → sm z.toNat = z := fun z hz => by rw [sm_low (by omega)]; omega
  refine ⟨h.kind.trans (hsm _ (by omega)), h.frm.trans (hsm _ (by omega)), h.dst.trans (hsm _ (by omega)), h.grp.trans (hsm _ (by omega)), h.slot.trans (hsm _ (by omega)), h.ballot, h.value, h.votes.trans ?_⟩
  unfold PM.of
  dsimp only
  rw [List.map_map]
  conv => rhs; rw [← List.map_id a.votes]
  refine List.map_congr_left fun v hv => ?_
  obtain ⟨s, b, x⟩ := v
  have := wa.votes _ hv
  dsimp only at this
  show Vt.of (PV.of ⟨s, b, x⟩) = ⟨s, b, x⟩
  unfold Vt.of PV.of
  dsimp only
  rw [hsm s (by omega)]
/-- what Read answers to a message's bytes with more behind them, and to a part of them. -/
theorem read_more {m q : Mg} {more : Bs} (wm : WMg m) (rm : rightM m = true) (nm : m.ballot < two64 ∧ ∀ v ∈ m.votes, v.ballot < two64) (hq : MOf q (rMsg (msgB m ++ more)).1) :
    MLike q m ∧ (rightM q && (msgB q == msgB m ++ more)) = decide (more = []) := by
  unfold msgB at hq
  rw [List.append_assoc, rMsg_app wm nm] at hq
  have hl := mOf_like wm hq
  refine ⟨hl, ?_⟩
  rw [hl.right, rm, hl.msg, Bool.true_and, Bool.eq_iff_iff, beq_iff_eq, decide_eq_true_eq]
  constructor
  · intro h
    exact (List.append_right_eq_self.1 h.symm)
  · rintro rfl
    rw [List.append_nil]
theorem read_cut {m q : Mg} {k : Nat} (wm : WMg m) (nm : m.ballot < two64 ∧ ∀ v ∈ m.votes, v.ballot < two64) (hk : k < (msgB m).length) (nq : q.ballot < two64 ∧ ∀ v ∈ q.votes, v.ballot < two64) :
    (rightM q && (msgB q == (msgB m).take k)) = false := by
  by_cases hr : rightM q = true
  · rw [hr, Bool.true_and, beq_eq_false_iff_ne]
    intro h
    have e : msgB m ++ [] = msgB q ++ (msgB m).drop k := by rw [h, List.take_append_drop, List.append_nil]
    have := (msgB_pre wm (rightM_wmg hr) nm nq e).2
    have h2 := congrArg List.length this
    rw [List.length_drop] at h2
    simp at h2
    omega
  · rw [Bool.eq_false_iff.2 hr, Bool.false_and]
theorem rMsg_all (L : Nat) (l : List UInt8) (h : l.length ≤ L) : (rMsg l).1.value.length ≤ L ∧ (rMsg l).1.ballot < 2 ^ 64 ∧ (rMsg l).1.votes.length ≤ 64 ∧ ∀ v ∈ (rMsg l).1.votes, v.ballot < 2 ^ 64 ∧ v.value.length ≤ L := by
  have hr1 : ∀ l, l.length ≤ L → (r1 l).length ≤ L := fun l h => Nat.le_trans (rN_len l) h
  have g := hr1 _ (hr1 _ (hr1 _ (hr1 _ (hr1 _ (hr1 _ h)))))
  unfold rMsg
  dsimp only
  refine ⟨Nat.le_trans (rT_len _).1 g, rN_lt _, by rw [rep_len]; omega, ?_⟩
  exact (rep_all rVote (fun v => v.ballot < 2 ^ 64 ∧ v.value.length ≤ L) L (fun l hl => by
    have h1 := hr1 _ hl
    have h2 := hr1 _ h1
    have h3 := rT_len (r1 (r1 l))
    exact ⟨⟨rN_lt _, Nat.le_trans h3.1 h2⟩, Nat.le_trans h3.2 h2⟩) _ _ (hr1 _ (Nat.le_trans (rT_len _).2 g))).1
end Go.Proofs.YtdpjmkgjjhcgeaaDoor
