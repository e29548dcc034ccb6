/- What is kept while a copy is spoilt: all else stays. No condition. -/
import Derived.Test.YtlnfmojmkejaoaaPCopyL
import Derived.Test.YtlnfmojmkejaoaaSameP
namespace Go.Proofs.Ytlnfmojmkejaoaa
open Go.RowKit

structure SLoop (w7 wr : World) (N gc : Nat) (c : Tx) (i : Nat) : Prop where
  bk : Bk wr gc 26 (txa c)
  own : WOwn wr N c
  row : ∀ (j : Nat) (x : Opn), i ≤ j → c.ops[j]? = some x → ∀ go, c.oa = some ⟨go, 0, none⟩ → ∀ (q : Nat) v, (opc x)[q]? = some v → wr.cell? ⟨go, j * 4 + q, none⟩ = some v
  fr : Fr (fun k => N ≤ k) w7 wr

theorem SLoop.start {w : World} {N gc : Nat} {c : Tx} (hb : Bk w gc 26 (txa c)) (ho : WOwn w N c) (hi : TxIn w c) : SLoop w w N gc c 0 :=
  ⟨hb, ho, fun j x _ hx go hgo q v hq => by
    obtain ⟨b, o, e, hc⟩ := hi.ops (by have := (List.getElem?_eq_some_iff.1 hx).1; rw [opsc_len]; omega)
    rw [hgo] at e
    injection e with e
    injection e with e1 e2 _
    subst e1 e2
    have hq4 := (List.getElem?_eq_some_iff.1 hq).1
    have := hc (j * 4 + q) v ((opsc_get c.ops j x hx q hq4).trans hq)
    rwa [Nat.zero_add] at this, Fr.refl _ _⟩
theorem SLoop.putT {w7 wr : World} {N gc i : Nat} {c : Tx} (h : SLoop w7 wr N gc c i) {g : Nat} {T : TypeId} {cs : Array Value} (hb : Bk wr g T cs) (hN : N ≤ g) (h1 : T ≠ 26) (h2 : T ≠ 39) (k : Nat) (u : Value) :
    SLoop w7 (wr.setCell ⟨g, k, none⟩ u) N gc c i := by
  refine ⟨h.bk.far (p := ⟨g, k, none⟩) (fun e => Bk.apart h.bk hb h1.symm e) u, h.own.put _ rfl u, fun j x hj hx go hgo q v hq => ?_, h.fr.setCell (p := ⟨g, k, none⟩) (fun _ => hN) u⟩
  obtain ⟨g3, cs3, e, _, hb3, _⟩ := h.own.fo_ (by have := (List.getElem?_eq_some_iff.1 hx).1; omega)
  rw [hgo] at e
  injection e with e
  injection e with e
  subst e
  rw [World.cell?_setCell_far wr ⟨g, k, none⟩ ⟨go, j * 4 + q, none⟩ u (fun e => Bk.apart hb3 hb h2.symm e.symm)]
  exact h.row j x hj hx go hgo q v hq
theorem SLoop.putO {w7 wr : World} {N gc i : Nat} {c : Tx} (h : SLoop w7 wr N gc c i) {go : Nat} {cs : Array Value} (hA : c.oa = some ⟨go, 0, none⟩) (hb : Bk wr go 39 cs) (hN : N ≤ go) (k : Nat) (hk : k < i * 4) (u : Value) :
    SLoop w7 (wr.setCell ⟨go, k, none⟩ u) N gc c i := by
  refine ⟨h.bk.far (p := ⟨go, k, none⟩) (fun e => Bk.apart h.bk hb (by decide) e) u, h.own.put _ rfl u, fun j x hj hx go' hgo q v hq => ?_, h.fr.setCell (p := ⟨go, k, none⟩) (fun _ => hN) u⟩
  rw [hA] at hgo
  injection hgo with e
  injection e with e
  subst e
  have h0 := h.row j x hj hx go hA q v hq
  rw [hb.cell] at h0
  rw [(hb.put k u).cell, Array.getElem?_setIfInBounds_ne (by omega)]
  exact h0
theorem SLoop.up {w7 wr : World} {N gc i : Nat} {c : Tx} (h : SLoop w7 wr N gc c i) : SLoop w7 wr N gc c (i + 1) := ⟨h.bk, h.own, fun j x hj hx => h.row j x (by omega) hx, h.fr⟩
theorem TxIn.frN {w w' : World} {N : Nat} {t : Tx} (h : TxIn w t) (hf : Fr (fun k => N ≤ k) w w') (hN : ∀ k, k < w.heap.size → ¬ N ≤ k) : TxIn w' t :=
  have k : ∀ {A xs}, Rd w A xs → Rd w' A xs := fun hr => hr.fr' hf fun hp k hk => hN k (hr.lt hp hk)
  ⟨k h.reads, k h.writes, k h.ops, fun x hx => ⟨⟨k (h.vals x hx).1.1, (h.vals x hx).1.2⟩, (h.vals x hx).2⟩, h.texts, h.rl, h.wl, h.ol⟩
/-- what reads in an elder world reads still. -/
theorem TxIn.frO {w0 w w' : World} {N : Nat} {t : Tx} (h : TxIn w0 t) (h0 : Fr NoBlk w0 w) (hs : w0.heap.size ≤ N) (hf : Fr (fun k => N ≤ k) w w') : TxIn w' t := by
  exact h.nofr (h0.step hf fun i hi e => absurd e (by omega))
theorem txSame_refl {w w' : World} {t u : Tx} (h : Cpy w w' t u) : txSame u t = true := by
  unfold txSame
  rw [h.kind, h.to_, h.reads, h.writes]
  simp only [decide_true, beq_self_eq_true, Bool.true_and]
  refine opsSame_yes h.ops.1 fun j x y hx hy => ?_
  obtain ⟨a, b, c, d⟩ := h.ops.2 j x y hx hy
  unfold opSame
  rw [a, b, c, d]
  simp
theorem txSame_of {t u : Tx} (h1 : t.kind = u.kind) (h2 : t.to = u.to) (h3 : t.reads = u.reads) (h4 : t.writes = u.writes) (h5 : Alike t.ops u.ops) : txSame t u = true := by
  unfold txSame
  rw [h1, h2, h3, h4]
  simp only [decide_true, beq_self_eq_true, Bool.true_and]
  refine opsSame_yes h5.1 fun j x y hx hy => ?_
  obtain ⟨a, b, c, d⟩ := h5.2 j x y hx hy
  unfold opSame
  rw [a, b, c, d]
  simp
theorem Alike.trans {xs ys zs : List Opn} (h : Alike xs ys) (k : Alike ys zs) : Alike xs zs := ⟨h.1.trans k.1, fun j x z hx hz => by
  have hl := (List.getElem?_eq_some_iff.1 hx).1
  have hy := List.getElem?_eq_getElem (l := ys) (i := j) (by have := h.1; omega)
  obtain ⟨a, b, c, d⟩ := h.2 j x _ hx hy
  obtain ⟨a', b', c', d'⟩ := k.2 j _ z hy hz
  exact ⟨a.trans a', b.trans b', c.trans c', d.trans d'⟩⟩
theorem Small.like {t u : Tx} (hs : Small t) (h3 : u.reads = t.reads) (h4 : u.writes = t.writes) (h5 : Alike u.ops t.ops) : Small u := by
  refine ⟨by rw [h3]; exact hs.r, by rw [h4]; exact hs.w, by rw [h5.1]; exact hs.o, by rw [h3]; exact hs.rk, by rw [h4]; exact hs.wk, fun x hx => ?_⟩
  obtain ⟨j, hj, rfl⟩ := List.getElem_of_mem hx
  have hj2 : j < t.ops.length := by rw [← h5.1]; exact hj
  obtain ⟨_, b, c, _⟩ := h5.2 j _ _ (List.getElem?_eq_getElem hj) (List.getElem?_eq_getElem hj2)
  rw [b, c]
  exact hs.ok _ (List.getElem_mem hj2)
theorem Bk.txn' {w : World} {g : Nat} {T : TypeId} {t : Tx} (h : Bk w g T (txa t)) :
    w.cell? ⟨g, 0, none⟩ = some (.int .i64 t.kind) ∧ w.cell? ⟨g, 1, none⟩ = some (.slice t.ra t.reads.length t.rc) ∧ w.cell? ⟨g, 2, none⟩ = some (.slice t.wa t.writes.length t.wc) ∧ w.cell? ⟨g, 3, none⟩ = some (.slice t.oa t.ops.length t.oc) ∧ w.cell? ⟨g, 4, none⟩ = some (.int .i64 t.to) :=
  ⟨h.cell 0, h.cell 1, h.cell 2, h.cell 3, h.cell 4⟩
/-- the cells of three boxes. -/
theorem sThree {w' : World} {g g' g'' : Nat} {T : TypeId} {t u v : Tx} (h1 : Bk w' g T (txa t)) (h2 : Bk w' g' T (txa u)) (h3 : Bk w' g'' T (txa v)) :
    (w'.cell? ⟨g, 0, none⟩ = some (.int .i64 t.kind) ∧ w'.cell? ⟨g, 1, none⟩ = some (.slice t.ra t.reads.length t.rc) ∧ w'.cell? ⟨g, 2, none⟩ = some (.slice t.wa t.writes.length t.wc) ∧ w'.cell? ⟨g, 3, none⟩ = some (.slice t.oa t.ops.length t.oc) ∧ w'.cell? ⟨g, 4, none⟩ = some (.int .i64 t.to)) ∧
    (w'.cell? ⟨g', 0, none⟩ = some (.int .i64 u.kind) ∧ w'.cell? ⟨g', 1, none⟩ = some (.slice u.ra u.reads.length u.rc) ∧ w'.cell? ⟨g', 2, none⟩ = some (.slice u.wa u.writes.length u.wc) ∧ w'.cell? ⟨g', 3, none⟩ = some (.slice u.oa u.ops.length u.oc) ∧ w'.cell? ⟨g', 4, none⟩ = some (.int .i64 u.to)) ∧
    (w'.cell? ⟨g'', 0, none⟩ = some (.int .i64 v.kind) ∧ w'.cell? ⟨g'', 1, none⟩ = some (.slice v.ra v.reads.length v.rc) ∧ w'.cell? ⟨g'', 2, none⟩ = some (.slice v.wa v.writes.length v.wc) ∧ w'.cell? ⟨g'', 3, none⟩ = some (.slice v.oa v.ops.length v.oc) ∧ w'.cell? ⟨g'', 4, none⟩ = some (.int .i64 v.to)) :=
  ⟨h1.txn', h2.txn', h3.txn'⟩
end Go.Proofs.Ytlnfmojmkejaoaa
