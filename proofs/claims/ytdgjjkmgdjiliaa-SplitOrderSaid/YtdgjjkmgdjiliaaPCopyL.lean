/- What the program's Copy keeps from round to round. No condition but lengths. -/
import Derived.Test.YtdgjjkmgdjiliaaClone
namespace Go.Proofs.Ytdgjjkmgdjiliaa
open Go.RowKit

theorem Rd.far {w : World} {A : Option Addr} {xs : List Value} (h : Rd w A xs) (p : Addr) (hn : 0 < xs.length → ∀ k, ablk A k → k ≠ p.block) (u : Value) : Rd (w.setCell p u) A xs :=
  h.fr' ((Fr.refl (fun k => k = p.block) w).setCell (p := p) (fun _ => rfl) u) fun hp k hk e => hn hp k hk e
theorem Fsh.ne {w : World} {N n g : Nat} {A : Option Addr} {T T' : TypeId} {cs : Array Value} (h : Fsh w N A n T) (hb : Bk w g T' cs) (hT : T ≠ T') (hp : 0 < n) : ∀ k, ablk A k → k ≠ g := by
  rintro k ⟨b, e, rfl⟩ rfl
  obtain ⟨g', cs', e', _, hb', _⟩ := h hp
  rw [e] at e'
  injection e' with e'
  subst e'
  exact Bk.apart hb' hb hT rfl
theorem opsc_cell (xs : List Opn) (j : Nat) (v : Value) (h : (opsc xs)[j]? = some v) : ∃ x, xs[j / 4]? = some x ∧ (opc x)[j % 4]? = some v := by
  have hl := (List.getElem?_eq_some_iff.1 h).1
  rw [opsc_len] at hl
  have hx : xs[j / 4]? = some (xs[j / 4]'(by omega)) := List.getElem?_eq_getElem (by omega)
  refine ⟨_, hx, ?_⟩
  rw [← opsc_get xs (j / 4) _ hx (j % 4) (by omega), show j / 4 * 4 + j % 4 = j by omega]
  exact h
theorem Rd.setOp {w : World} {g : Nat} {cs : Array Value} {T : TypeId} {os : List Opn} (h : Rd w (some ⟨g, 0, none⟩) (opsc os)) (hb : Bk w g T cs) (k : Nat) (x x' : Opn) (hx : os[k]? = some x) (h1 : x'.kind = x.kind) (h2 : x'.key = x.key) (h4 : x'.n = x.n) :
    Rd (w.setCell ⟨g, k * 4 + 2, none⟩ (sl x'.val)) (some ⟨g, 0, none⟩) (opsc (os.set k x')) := by
  intro _
  refine ⟨g, 0, rfl, fun j v hv => ?_⟩
  have hkl := (List.getElem?_eq_some_iff.1 hx).1
  obtain ⟨y, hy, hv⟩ := opsc_cell _ j v hv
  have hold : ∀ j v, (opsc os)[j]? = some v → cs[j]? = some v := fun j v hj => by
    obtain ⟨b, o, e, hc⟩ := h (by have := (List.getElem?_eq_some_iff.1 hj).1; omega)
    injection e with e
    injection e with e1 e2 _
    subst e1 e2
    have := hc j v hj
    rwa [Nat.zero_add, hb.cell] at this
  rw [Nat.zero_add, (hb.put _ _).cell]
  have hm : j % 4 < 4 := Nat.mod_lt _ (by omega)
  have hj4 : j = j / 4 * 4 + j % 4 := by omega
  have hcs : k * 4 + 2 < cs.size := by
    have := hold (k * 4 + 2) _ ((opsc_get os k x hx 2 (by omega)).trans rfl)
    exact (Array.getElem?_eq_some_iff.1 this).1
  by_cases hk : j / 4 = k
  · rw [hk, List.getElem?_set_self hkl] at hy
    injection hy with hy
    subst hy
    by_cases h2' : j % 4 = 2
    · have e : j = k * 4 + 2 := by omega
      rw [h2'] at hv
      rw [e, Array.getElem?_setIfInBounds_self_of_lt hcs]
      exact hv
    · rw [Array.getElem?_setIfInBounds_ne (by omega)]
      refine hold j v ?_
      rw [hj4, hk, opsc_get os k x hx _ hm, ← hv]
      unfold opc
      rw [h1, h2, h4]
      match hq : j % 4, hm, h2' with
      | 0, _, _ => rfl
      | 1, _, _ => rfl
      | 2, _, h => exact absurd rfl h
      | 3, _, _ => rfl
  · rw [List.getElem?_set_ne (by omega)] at hy
    rw [Array.getElem?_setIfInBounds_ne (by omega)]
    refine hold j v ?_
    rw [hj4, opsc_get os (j / 4) y hy _ hm]
    exact hv

/-- what has been copied so far: the lists are copied, of the operations' values the first k. -/
structure PLoop (w wr : World) (t : Tx) (g : Nat) (A1 : Option Addr) (c1 : Nat) (A2 : Option Addr) (c2 : Nat) (A3 : Option Addr) (c3 : Nat) (os : List Opn) (k : Nat) : Prop where
  bk : Bk wr g 35 #[.int .i64 t.kind, .slice A1 t.reads.length c1, .slice A2 t.writes.length c2, .slice A3 t.ops.length c3, .int .i64 t.to]
  gl : w.heap.size ≤ g
  res : Bk wr (g + 1) 35 #[.int .i64 0, .slice none 0 0, .slice none 0 0, .slice none 0 0, .int .i64 0]
  rd1 : Rd wr A1 (sts t.reads)
  rd2 : Rd wr A2 (sts t.writes)
  rd3 : Rd wr A3 (opsc os)
  l1 : t.reads.length ≤ c1 ∧ c1 ≤ maxLen ∧ (A1 = none → c1 = 0)
  l2 : t.writes.length ≤ c2 ∧ c2 ≤ maxLen ∧ (A2 = none → c2 = 0)
  l3 : t.ops.length ≤ c3 ∧ c3 ≤ maxLen ∧ (A3 = none → c3 = 0)
  f1 : Fsh wr w.heap.size A1 (t.reads.length * 1) 9
  f2 : Fsh wr w.heap.size A2 (t.writes.length * 1) 9
  f3 : Fsh wr w.heap.size A3 (t.ops.length * 4) 98
  old : ∀ (j : Nat) (x : Opn), k ≤ j → os[j]? = some x → t.ops[j]? = some x
  new : ∀ (j : Nat) (x : Opn), j < k → os[j]? = some x → Part wr x.val ∧ x.val.2.2.length ≤ x.val.2.1 ∧ x.val.2.1 ≤ maxLen ∧ Fsh wr w.heap.size x.val.1 (x.val.2.2.length * 1) 5
  like : Alike os t.ops
  fr : Fr NoBlk w wr

theorem PLoop.next {w wr w5 : World} {t : Tx} {g : Nat} {A1 A2 : Option Addr} {c1 c2 c3 go : Nat} {os : List Opn} {k : Nat} (h : PLoop w wr t g A1 c1 A2 c2 (some ⟨go, 0, none⟩) c3 os k) (hk : k < t.ops.length) {x : Opn} (hx : os[k]? = some x) {A5 : Option Addr} {c5 : Nat}
    (hg : GotB wr w5 x.val.2.2.length 1 5 (cb x.val.2.2) A5 c5) :
    PLoop w (w5.setCell ⟨go, k * 4 + 2, none⟩ (.slice A5 x.val.2.2.length c5)) t g A1 c1 A2 c2 (some ⟨go, 0, none⟩) c3 (os.set k ⟨x.kind, x.key, (A5, c5, x.val.2.2), x.n⟩) (k + 1) := by
  have f := hg.got.fr
  obtain ⟨g3, cs, e, hN, hb, hsz⟩ := (h.f3.fr f) (by omega)
  injection e with e
  injection e with e
  subst e
  have hsz5 := f.size
  have hkl := (List.getElem?_eq_some_iff.1 hx).1
  have hb0 := h.bk.fr f (fun h => h)
  refine ⟨hb0.far (p := ⟨go, k * 4 + 2, none⟩) (fun e => Bk.apart hb0 hb (by decide) e) _, h.gl, (h.res.fr f (fun h => h)).far (p := ⟨go, k * 4 + 2, none⟩) (fun e => Bk.apart (h.res.fr f (fun h => h)) hb (by decide) e) _, ?_, ?_, ?_, h.l1, h.l2, h.l3, (h.f1.fr f).put _ rfl _, (h.f2.fr f).put _ rfl _, (h.f3.fr f).put _ rfl _, ?_, ?_, ?_, ?_⟩
  · exact (h.rd1.nofr f).far _ (fun hp => (h.f1.fr f).ne hb (by decide) (by rw [sts_len] at hp; omega)) _
  · exact (h.rd2.nofr f).far _ (fun hp => (h.f2.fr f).ne hb (by decide) (by rw [sts_len] at hp; omega)) _
  · exact (h.rd3.nofr f).setOp hb k x ⟨x.kind, x.key, (A5, c5, x.val.2.2), x.n⟩ hx rfl rfl rfl
  · intro j y hj hy
    rw [List.getElem?_set_ne (by omega)] at hy
    exact h.old j y (by omega) hy
  · intro j y hj hy
    by_cases e : j = k
    · subst e
      rw [List.getElem?_set_self hkl] at hy
      injection hy with hy
      subst hy
      have hfs : Fsh w5 w.heap.size A5 (x.val.2.2.length * 1) 5 := hg.fsh.mono (by have := h.fr.size; omega)
      refine ⟨⟨hg.got.rd.far _ (fun hp => hfs.ne hb (by decide) (by rw [cb_length] at hp; omega)) _, hg.got.nil⟩, hg.got.le, hg.got.max, hfs.put _ rfl _⟩
    · rw [List.getElem?_set_ne (by omega)] at hy
      obtain ⟨a1, a2, a3, a4⟩ := h.new j y (by omega) hy
      exact ⟨⟨(a1.1.nofr f).far _ (fun hp => (a4.fr f).ne hb (by decide) (by rw [cb_length] at hp; omega)) _, a1.2⟩, a2, a3, (a4.fr f).put _ rfl _⟩
  · refine ⟨by rw [List.length_set]; exact h.like.1, fun j a b ha hb' => ?_⟩
    by_cases e : j = k
    · subst e
      rw [List.getElem?_set_self hkl] at ha
      injection ha with ha
      subst ha
      exact h.like.2 j x b hx hb'
    · rw [List.getElem?_set_ne (by omega)] at ha
      exact h.like.2 j a b ha hb'
  · exact (h.fr.trans f).setCell (p := ⟨go, k * 4 + 2, none⟩) (fun hl => absurd hl (by show ¬ go < _; omega)) _

theorem PLoop.drew {w wr : World} {t : Tx} {g : Nat} {A1 A2 A3 : Option Addr} {c1 c2 c3 : Nat} {os : List Opn} {k : Nat} (h : PLoop w wr t g A1 c1 A2 c2 A3 c3 os k) : PLoop w wr.drew t g A1 c1 A2 c2 A3 c3 os k :=
  ⟨h.bk, h.gl, h.res, h.rd1, h.rd2, h.rd3, h.l1, h.l2, h.l3, h.f1, h.f2, h.f3, h.old, h.new, h.like, h.fr.drew⟩
theorem GotB.undrew {w w' : World} {m size : Nat} {T : TypeId} {news : List Value} {A : Option Addr} {c : Nat} (h : GotB w.drew w' m size T news A c) : GotB w w' m size T news A c :=
  ⟨⟨h.got.rd, h.got.le, h.got.max, h.got.nil, h.got.new, ((Fr.refl NoBlk w).drew).trans h.got.fr⟩, h.fsh⟩

/-- memory of the call's own, all through. -/
structure WOwn (w : World) (N : Nat) (u : Tx) : Prop where
  fr_ : Fsh w N u.ra (u.reads.length * 1) 9
  fw_ : Fsh w N u.wa (u.writes.length * 1) 9
  fo_ : Fsh w N u.oa (u.ops.length * 4) 98
  fv_ : ∀ x ∈ u.ops, Fsh w N x.val.1 (x.val.2.2.length * 1) 5
theorem WOwn.fr {w w' : World} {N : Nat} {u : Tx} (h : WOwn w N u) (hf : Fr NoBlk w w') : WOwn w' N u := ⟨h.fr_.fr hf, h.fw_.fr hf, h.fo_.fr hf, fun x hx => (h.fv_ x hx).fr hf⟩
theorem WOwn.put {w : World} {N : Nat} {u : Tx} (h : WOwn w N u) (p : Addr) (hp : p.spot = none) (c : Value) : WOwn (w.setCell p c) N u := ⟨h.fr_.put p hp c, h.fw_.put p hp c, h.fo_.put p hp c, fun x hx => (h.fv_ x hx).put p hp c⟩

/-- a transaction copied by the program: alike, in memory of its own. -/
structure Cpy (w w' : World) (t u : Tx) : Prop where
  inn : TxIn w' u
  kind : u.kind = t.kind
  to_ : u.to = t.to
  reads : u.reads = t.reads
  writes : u.writes = t.writes
  ops : Alike u.ops t.ops
  own : WOwn w' w.heap.size u
  fr : Fr NoBlk w w'
def CpyPost (w : World) (t : Tx) (e : Ending) (w' : World) : Prop := ∃ u, e = .returned (txv u) ∧ Cpy w w' t u
theorem PLoop.fin {w wr wz : World} {t : Tx} {g : Nat} {A1 A2 A3 : Option Addr} {c1 c2 c3 : Nat} {os : List Opn} (h : PLoop w wr t g A1 c1 A2 c2 A3 c3 os t.ops.length) (ht : TxIn w t) (hz : Fr (fun k => k = g + 1) wr wz) :
    Cpy w wz t ⟨t.kind, A1, c1, t.reads, A2, c2, t.writes, A3, c3, os, t.to⟩ := by
  have hj : ∀ x ∈ os, ∃ j, j < t.ops.length ∧ os[j]? = some x := fun x hx => by
    obtain ⟨j, hj, rfl⟩ := List.getElem_of_mem hx
    exact ⟨j, by have := h.like.1; omega, List.getElem?_eq_getElem hj⟩
  refine ⟨⟨h.rd1.fr' hz fun hp => h.f1.ne h.res (by decide) (by rw [sts_len] at hp; omega), h.rd2.fr' hz fun hp => h.f2.ne h.res (by decide) (by rw [sts_len] at hp; omega), h.rd3.fr' hz fun hp => h.f3.ne h.res (by decide) (by rw [opsc_len, h.like.1] at hp; omega), fun x hx => ?_, ht.texts, h.l1, h.l2, ⟨by show os.length ≤ _; rw [h.like.1]; exact h.l3.1, h.l3.2⟩⟩, rfl, rfl, rfl, rfl, h.like, ⟨h.f1.frV hz h.res (by decide), h.f2.frV hz h.res (by decide), by show Fsh _ _ _ (os.length * 4) _; rw [h.like.1]; exact h.f3.frV hz h.res (by decide), fun x hx => ?_⟩, h.fr.step hz (fun i hi e => by have := h.gl; omega)⟩
  · obtain ⟨j, hl, e⟩ := hj x hx
    obtain ⟨a1, a2, a3, a4⟩ := h.new j x hl e
    refine ⟨⟨a1.1.fr' hz fun hp => a4.ne h.res (by decide) (by rw [cb_length] at hp; omega), a1.2⟩, a2, a3, ?_⟩
    obtain ⟨_, hk, _⟩ := h.like.2 j x _ e (List.getElem?_eq_getElem hl)
    rw [hk]
    exact (ht.vals _ (List.getElem_mem hl)).2.2.2
  · obtain ⟨j, hl, e⟩ := hj x hx
    exact (h.new j x hl e).2.2.2.frV hz h.res (by decide)
theorem PLoop.start {w wr : World} {t : Tx} {g : Nat} {A1 A2 A3 : Option Addr} {c1 c2 c3 : Nat} (hg : w.heap.size ≤ g)
    (bk : Bk wr g 35 #[.int .i64 t.kind, .slice A1 t.reads.length c1, .slice A2 t.writes.length c2, .slice A3 t.ops.length c3, .int .i64 t.to])
    (res : Bk wr (g + 1) 35 #[.int .i64 0, .slice none 0 0, .slice none 0 0, .slice none 0 0, .int .i64 0])
    (h1 : Rd wr A1 (sts t.reads)) (h2 : Rd wr A2 (sts t.writes)) (h3 : Rd wr A3 (opsc t.ops))
    (l1 : t.reads.length ≤ c1 ∧ c1 ≤ maxLen ∧ (A1 = none → c1 = 0)) (l2 : t.writes.length ≤ c2 ∧ c2 ≤ maxLen ∧ (A2 = none → c2 = 0)) (l3 : t.ops.length ≤ c3 ∧ c3 ≤ maxLen ∧ (A3 = none → c3 = 0))
    (f1 : Fsh wr w.heap.size A1 (t.reads.length * 1) 9) (f2 : Fsh wr w.heap.size A2 (t.writes.length * 1) 9) (f3 : Fsh wr w.heap.size A3 (t.ops.length * 4) 98) (fr : Fr NoBlk w wr) :
    PLoop w wr t g A1 c1 A2 c2 A3 c3 t.ops 0 :=
  ⟨bk, hg, res, h1, h2, h3, l1, l2, l3, f1, f2, f3, fun _ _ _ h => h, fun _ _ h => absurd h (by omega), ⟨rfl, fun j x y hx hy => by rw [hx] at hy; injection hy with hy; subst hy; exact ⟨rfl, rfl, rfl, rfl⟩⟩, fr⟩
end Go.Proofs.Ytdgjjkmgdjiliaa
