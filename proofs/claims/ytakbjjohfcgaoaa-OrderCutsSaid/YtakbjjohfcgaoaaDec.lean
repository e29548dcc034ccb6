/- Orders read of bytes, and what was written is read: plain mathematics. No condition. -/
import Derived.Test.YtakbjjohfcgaoaaWrite
import Derived.Test.YtakbjjohfcgaoaaOCopy
import Derived.Test.YtakbjjohfcgaoaaNum2
namespace Go.Proofs.Ytakbjjohfcgaoaa

def rN (l : List UInt8) : Nat × List UInt8 := ((rdNum l).1, l.drop (rdNum l).2.1)
def rT (l : List UInt8) : Bs × List UInt8 := ((rdText l).1, l.drop (rdText l).2.1)
theorem rN_app (n : Nat) (h : n < 2 ^ 64) (r : List UInt8) : rN (num n ++ r) = (n, r) := by
  unfold rN
  rw [rdNum_app n r h]
  simp
theorem rT_app (t : Bs) (h : t.length < 2 ^ 64) (r : List UInt8) : rT (textB t ++ r) = (t, r) := by
  unfold rT rdText textB
  rw [List.append_assoc, rdNum_app _ _ h]
  simp only [if_pos]
  rw [if_neg (by simp only [List.length_append]; omega)]
  simp
/-- so many things, one behind the other. -/
def rep {α : Type} (f : List UInt8 → α × List UInt8) : Nat → List UInt8 → List α × List UInt8
  | 0, l => ([], l)
  | k + 1, l => ((f l).1 :: (rep f k (f l).2).1, (rep f k (f l).2).2)
theorem rep_app {α β : Type} (f : List UInt8 → α × List UInt8) (g : β → List UInt8) (d : β → α) (xs : List β) (h : ∀ x ∈ xs, ∀ r, f (g x ++ r) = (d x, r)) (r : List UInt8) : rep f xs.length (xs.flatMap g ++ r) = (xs.map d, r) := by
  induction xs with
  | nil => rfl
  | cons x t ih =>
    have h1 := h x (List.mem_cons_self ..) (t.flatMap g ++ r)
    have h2 := ih fun y hy => h y (List.mem_cons_of_mem _ hy)
    rw [List.flatMap_cons, List.append_assoc, List.length_cons]
    simp only [rep, h1, h2, List.map_cons]
theorem rep_len {α : Type} (f : List UInt8 → α × List UInt8) : ∀ k l, (rep f k l).1.length = k
  | 0, _ => rfl
  | k + 1, l => by simp only [rep, List.length_cons, rep_len f k]

structure POp where
  kind : Nat
  key : Bs
  val : Bs
  z : Nat
def rOpn (l : List UInt8) : POp × List UInt8 := (⟨(rN l).1, (rT (rN l).2).1, (rT (rT (rN l).2).2).1, (rN (rT (rT (rN l).2).2).2).1⟩, (rN (rT (rT (rN l).2).2).2).2)
def rMk (l : List UInt8) : (Nat × Nat) × List UInt8 := (((rN l).1, (rN (rN l).2).1), (rN (rN l).2).2)
/-- how many: no more than there may be. -/
def rC (most : Nat) (l : List UInt8) : Nat := min (rN l).1 most
structure PT where
  kind : Nat
  to_ : Nat
  reads : List Bs
  writes : List Bs
  ops : List POp
def rKeys (l : List UInt8) : List Bs × List UInt8 := rep rT (rC 8 l) (rN l).2
def rOps (l : List UInt8) : List POp × List UInt8 := rep rOpn (rC 16 l) (rN l).2
def rTxn (l : List UInt8) : PT × List UInt8 :=
  (⟨(rN l).1, (rN (rN l).2).1, (rKeys (rN (rN l).2).2).1, (rKeys (rKeys (rN (rN l).2).2).2).1, (rOps (rKeys (rKeys (rN (rN l).2).2).2).2).1⟩, (rOps (rKeys (rKeys (rN (rN l).2).2).2).2).2)
structure PO where
  node : Nat
  epoch : Nat
  seq : Nat
  tr : Nat
  t : PT
  marks : List (Nat × Nat)
def rTag (l : List UInt8) : (Nat × Nat × Nat × Nat) × List UInt8 :=
  (((rN l).1, (rN (rN l).2).1, (rN (rN (rN l).2).2).1, (rN (rN (rN (rN l).2).2).2).1), (rN (rN (rN (rN l).2).2).2).2)
def rOrder (l : List UInt8) : PO × List UInt8 :=
  (⟨(rTag l).1.1, (rTag l).1.2.1, (rTag l).1.2.2.1, (rTag l).1.2.2.2, (rTxn (rTag l).2).1,
    (rep rMk (keysOf (rTxn (rTag l).2).1.reads (rTxn (rTag l).2).1.writes).length (rTxn (rTag l).2).2).1⟩,
    (rep rMk (keysOf (rTxn (rTag l).2).1.reads (rTxn (rTag l).2).1.writes).length (rTxn (rTag l).2).2).2)

def POp.of (x : Opn) : POp := ⟨x.kind.toNat, x.key, x.val.2.2, foldN x.n⟩
def PT.of (t : Tx) : PT := ⟨t.kind.toNat, t.to.toNat, t.reads, t.writes, t.ops.map POp.of⟩
def PO.of (o : Od) : PO := ⟨o.node.toNat, o.epoch, o.seq, o.tr.toNat, PT.of o.t, o.marks.map fun m => (m.home.toNat, m.count)⟩

theorem rKeys_app (ks : List Bs) (h8 : ks.length ≤ 8) (hk : ∀ k ∈ ks, k.length ≤ 200) (r : List UInt8) : rKeys (keysB ks ++ r) = (ks, r) := by
  unfold rKeys rC keysB
  rw [List.append_assoc, rN_app _ (by omega)]
  simp only
  rw [Nat.min_eq_left h8, rep_app rT textB id ks (fun x hx r => rT_app x (by have := hk x hx; omega) r), List.map_id]
theorem rOpn_app (x : Opn) (hk : 0 ≤ x.kind ∧ x.kind ≤ 1000 ∧ nB x.n) (hs : x.key.length ≤ 200 ∧ x.val.2.2.length ≤ 200) (r : List UInt8) : rOpn (opB x ++ r) = (POp.of x, r) := by
  unfold rOpn opB POp.of
  simp only [List.append_assoc, rN_app _ (show x.kind.toNat < 2 ^ 64 by omega), rT_app _ (show x.key.length < 2 ^ 64 by omega), rT_app _ (show x.val.2.2.length < 2 ^ 64 by omega), rN_app _ (foldN_lt hk.2.2)]
theorem rTxn_app (t : Tx) (hw : WTx t) (hs : Small t) (hr : t.reads.length ≤ 8) (hwr : t.writes.length ≤ 8) (ho : t.ops.length ≤ 16) (r : List UInt8) : rTxn (txnB t ++ r) = (PT.of t, r) := by
  have hkd := hw.kind
  have hto := hw.to_
  have e1 : ∀ q, rN (nums [t.kind.toNat, t.to.toNat] ++ q) = (t.kind.toNat, num t.to.toNat ++ q) := fun q => by
    simp only [nums, List.flatMap_cons, List.flatMap_nil, List.append_nil, List.append_assoc]
    exact rN_app _ (by omega) _
  unfold rTxn txnB PT.of
  simp only [List.append_assoc, e1, rN_app _ (show t.to.toNat < 2 ^ 64 by omega), rKeys_app _ hr hs.rk, rKeys_app _ hwr hs.wk]
  unfold rOps rC
  simp only [rN_app _ (show t.ops.length < 2 ^ 64 by omega), Nat.min_eq_left ho]
  rw [rep_app rOpn opB POp.of t.ops (fun x hx r => rOpn_app x (hw.ops x hx) (hs.ok x hx) r)]
theorem rOrder_app {o : Od} (h : orderR o 3 = true) (hb : Bnd o) (hn : o.epoch < two64 ∧ o.seq < two64 ∧ ∀ m ∈ o.marks, m.count < two64) (r : List UInt8) : rOrder (orderB o ++ r) = (PO.of o, r) := by
  have hw := orderR_wod h hb
  have hs := orderR_small h
  have h0 := h
  unfold orderR at h
  simp only [Bool.and_eq_true] at h
  obtain ⟨_, h1, h2, h3⟩ := rightR_small h.1
  have hol : o.t.ops.length ≤ 16 := by
    have hk := h.1
    unfold rightR at hk
    simp only [Bool.and_eq_true] at hk
    have hk := hk.2
    unfold kindR at hk
    split at hk
    · simp only [Bool.and_eq_true, decide_eq_true_eq] at hk; omega
    · split at hk
      · simp only [Bool.and_eq_true, decide_eq_true_eq] at hk; omega
      · cases hk
  have hml := (zipB_at h.2.2).1
  have hnd := hw.node
  have htr := hw.tr
  unfold two64 at hn
  have e0 : ∀ q, rTag (nums [o.node.toNat, o.epoch, o.seq, o.tr.toNat] ++ q) = ((o.node.toNat, o.epoch, o.seq, o.tr.toNat), q) := fun q => by
    unfold rTag nums
    simp only [List.flatMap_cons, List.flatMap_nil, List.append_nil, List.append_assoc, rN_app _ (show o.node.toNat < 2 ^ 64 by omega), rN_app _ (show o.epoch < 2 ^ 64 by omega), rN_app _ (show o.seq < 2 ^ 64 by omega), rN_app _ (show o.tr.toNat < 2 ^ 64 by omega)]
  have e1 := rep_app rMk markB (fun m => (m.home.toNat, m.count)) o.marks (fun m hm r => by
    have h5 := hw.marks m hm
    have h6 := hn.2.2 m hm
    unfold rMk markB nums
    simp only [List.flatMap_cons, List.flatMap_nil, List.append_nil, List.append_assoc, rN_app _ (show m.home.toNat < 2 ^ 64 by omega), rN_app _ (show m.count < 2 ^ 64 by omega)]) r
  unfold rOrder orderB PO.of
  simp only [List.append_assoc, e0, rTxn_app _ hw.t hs.t (by omega) (by omega) hol]
  unfold PT.of
  simp only
  rw [← hml, e1]
theorem POp.inj {xs ys : List Opn} (hx : ∀ x ∈ xs, 0 ≤ x.kind) (hy : ∀ y ∈ ys, 0 ≤ y.kind) (h : xs.map POp.of = ys.map POp.of) : Alike xs ys := by
  refine ⟨by simpa using congrArg List.length h, fun j x y ha hb => ?_⟩
  have e := congrArg (fun l => l[j]?) h
  simp only [List.getElem?_map, ha, hb, Option.map_some, Option.some.injEq] at e
  unfold POp.of at e
  injection e with e1 e2 e3 e4
  have := hx x (List.mem_of_getElem? ha)
  have := hy y (List.mem_of_getElem? hb)
  exact ⟨by omega, e2, e3, foldN_inj e4⟩
theorem PO.inj {a b : Od} (ha : orderR a 3 = true) (hb : orderR b 3 = true) (hna : Bnd a) (hnb : Bnd b) (h : PO.of a = PO.of b) : OAlike a b := by
  have wa := orderR_wod ha hna
  have wb := orderR_wod hb hnb
  unfold PO.of PT.of at h
  injection h with h1 h2 h3 h4 h5 h6
  injection h5 with h7 h8 h9 h10 h11
  have p1 := wa.node; have p2 := wb.node; have p3 := wa.tr; have p4 := wb.tr; have p5 := wa.t.kind; have p6 := wb.t.kind; have p7 := wa.t.to_; have p8 := wb.t.to_
  refine ⟨by omega, h2, h3, by omega, by omega, by omega, h9, h10, POp.inj (fun x hx => (wa.t.ops x hx).1) (fun x hx => (wb.t.ops x hx).1) h11, ?_⟩
  unfold orderR at ha hb
  simp only [Bool.and_eq_true] at ha hb
  have za := zipB_at ha.2.2
  have zb := zipB_at hb.2.2
  rw [← h9, ← h10] at zb
  refine List.ext_getElem? fun j => ?_
  by_cases hj : j < a.marks.length
  · have hjb : j < b.marks.length := by rw [zb.1, ← za.1]; exact hj
    have hjk : j < (keysOf a.t.reads a.t.writes).length := by rw [← za.1]; exact hj
    have q1 := za.2 j _ _ (List.getElem?_eq_getElem hj) (List.getElem?_eq_getElem hjk)
    have q2 := zb.2 j _ _ (List.getElem?_eq_getElem hjb) (List.getElem?_eq_getElem hjk)
    unfold okM at q1 q2
    simp only [Bool.and_eq_true, decide_eq_true_eq, beq_iff_eq] at q1 q2
    have e := congrArg (fun l => l[j]?) h6
    simp only [List.getElem?_map, List.getElem?_eq_getElem hj, List.getElem?_eq_getElem hjb, Option.map_some, Option.some.injEq, Prod.mk.injEq] at e
    rw [List.getElem?_eq_getElem hj, List.getElem?_eq_getElem hjb]
    refine congrArg some ((markSame_iff _ _).1 ?_)
    unfold markSame
    simp only [Bool.and_eq_true, decide_eq_true_eq, beq_iff_eq]
    exact ⟨q1.1.1.trans q2.1.1.symm, by omega, e.2⟩
  · rw [List.getElem?_eq_none (by omega), List.getElem?_eq_none (by rw [zb.1, ← za.1]; omega)]
theorem alike_of {a b : Od} (h : OAlike a b) : PO.of a = PO.of b := by
  unfold PO.of PT.of
  rw [h.node, h.epoch, h.seq, h.tr, h.kind, h.to_, h.reads, h.writes, h.marks]
  have e : a.t.ops.map POp.of = b.t.ops.map POp.of := by
    refine List.ext_getElem? fun j => ?_
    by_cases hj : j < a.t.ops.length
    · have hjb : j < b.t.ops.length := by rw [← h.ops.1]; exact hj
      obtain ⟨q1, q2, q3, q4⟩ := h.ops.2 j _ _ (List.getElem?_eq_getElem hj) (List.getElem?_eq_getElem hjb)
      simp only [List.getElem?_map, List.getElem?_eq_getElem hj, List.getElem?_eq_getElem hjb, Option.map_some, POp.of, q1, q2, q3, q4]
    · have hjb : ¬ j < b.t.ops.length := by rw [← h.ops.1]; exact hj
      simp only [List.getElem?_map, List.getElem?_eq_none (Nat.le_of_not_lt hj), List.getElem?_eq_none (Nat.le_of_not_lt hjb), Option.map_none]
  rw [e]
/-- no order's bytes begin with another one's. -/
theorem orderB_pre {a b : Od} (ha : orderR a 3 = true) (hb : orderR b 3 = true) (hna : Bnd a) (hnb : Bnd b) (na : a.epoch < two64 ∧ a.seq < two64 ∧ ∀ m ∈ a.marks, m.count < two64) (nb : b.epoch < two64 ∧ b.seq < two64 ∧ ∀ m ∈ b.marks, m.count < two64)
    {r s : List UInt8} (h : orderB a ++ r = orderB b ++ s) : OAlike a b ∧ r = s := by
  have h1 := rOrder_app ha hna na r
  rw [h, rOrder_app hb hnb nb s] at h1
  injection h1 with h1 h2
  exact ⟨PO.inj ha hb hna hnb h1.symm, h2.symm⟩
theorem orderB_alike {a b : Od} (h : OAlike a b) : orderB a = orderB b := by
  have e : a.t.ops.flatMap opB = b.t.ops.flatMap opB := by
    have hm := congrArg PT.ops (congrArg PO.t (alike_of h))
    have hx : ∀ xs : List Opn, xs.flatMap opB = (xs.map POp.of).flatMap fun p => num p.kind ++ (textB p.key ++ (textB p.val ++ num p.z)) := fun xs => by
      rw [List.flatMap_map]
      rfl
    rw [hx, hx]
    exact congrArg _ hm
  unfold orderB txnB
  rw [h.node, h.epoch, h.seq, h.tr, h.kind, h.to_, h.reads, h.writes, h.marks, h.ops.1, e]
end Go.Proofs.Ytakbjjohfcgaoaa
