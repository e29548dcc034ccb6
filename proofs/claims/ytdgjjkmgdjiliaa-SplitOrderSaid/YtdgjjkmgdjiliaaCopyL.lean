/- What the document's Copy keeps from round to round. No condition but lengths. -/
import Derived.Test.YtdgjjkmgdjiliaaApp
import Derived.Test.YtdgjjkmgdjiliaaGreat
namespace Go.Proofs.Ytdgjjkmgdjiliaa
open Go.RowKit

theorem own_blk {w : World} {base : Nat} {e : TypeId} {size n : Nat} {v : Value} {xs : List Value} (h : w.ownsRow base e size v n xs) {k : Nat} (hk : v.ownBlock = some k) : base ≤ k ∧ k < w.heap.size := by
  rcases h.2 with ⟨h1, _⟩ | ⟨g, cap, cur, h1, h2, hh, _⟩
  · rw [h1] at hk; cases hk
  · rw [h1] at hk
    have : g = k := by simpa [Value.ownBlock] using hk
    subst this
    exact ⟨h2, (Array.getElem?_eq_some_iff.1 hh).1⟩

theorem own_cap {w : World} {base : Nat} {e : TypeId} {size n c : Nat} {A : Option Addr} {xs : List Value} (h : w.ownsRow base e size (.slice A n c) n xs) : c ≤ maxLen := by
  rcases h.2 with ⟨h1, _⟩ | ⟨g, cap, cur, h1, _, _, _, hcm, _⟩
  · injection h1 with _ _ h1
    subst h1
    exact Nat.zero_le _
  · injection h1 with _ _ h1
    subst h1
    exact hcm
/-- what has been copied so far: os of the operations, their row v of the call's own behind world wc. -/
structure Loop (wc wr : World) (t : Tx) (g : Nat) (A1 : Option Addr) (c1 : Nat) (A2 : Option Addr) (c2 : Nat) (v : Value) (os : List Opn) : Prop where
  bk : Bk wr g 35 #[.int .i64 t.kind, .slice A1 t.reads.length c1, .slice A2 t.writes.length c2, v, .int .i64 t.to]
  gl : g < wc.heap.size
  own : wr.ownsRow wc.heap.size 98 4 v os.length (opsc os)
  vals : ∀ x ∈ os, Part wr x.val ∧ x.val.2.2.length ≤ x.val.2.1 ∧ x.val.2.1 ≤ maxLen
  apart : ∀ x ∈ os, 0 < x.val.2.2.length → ∀ k, ablk x.val.1 k → v.ownBlock ≠ some k ∧ wc.heap.size ≤ k
  like : ∀ (j : Nat) (x : Opn), os[j]? = some x → ∃ y, t.ops[j]? = some y ∧ x.kind = y.kind ∧ x.key = y.key ∧ x.val.2.2 = y.val.2.2 ∧ x.n = y.n
  fr : Fr (fun k => k = g) wc wr

theorem Loop.g8 {wc wr w7 w8 : World} {t : Tx} {g : Nat} {A1 A2 : Option Addr} {c1 c2 : Nat} {v : Value} {os : List Opn} (h : Loop wc wr t g A1 c1 A2 c2 v os) (hf : Fr NoBlk wr w7) (hg : w7.grownBy w8 v.ownBlock) :
    Bk w8 g 35 #[.int .i64 t.kind, .slice A1 t.reads.length c1, .slice A2 t.writes.length c2, v, .int .i64 t.to] := by
  have hb := h.bk.fr hf (fun h => h)
  have ho := own_fr h.own hf (fun _ _ h => h)
  exact hb.fr (Fr.ofGrown hg) (fun e => own_apart ho hb (by decide) e.symm)

theorem Loop.next {wc wr w7 w8 : World} {t : Tx} {g : Nat} {A1 A2 : Option Addr} {c1 c2 : Nat} {v v8 : Value} {os : List Opn} (h : Loop wc wr t g A1 c1 A2 c2 v os) {x : Opn} (hx : t.ops[os.length]? = some x) {A5 : Option Addr} {c5 : Nat}
    (hf : Fr NoBlk wr w7) (hr : Rd w7 A5 (cb x.val.2.2)) (hle : x.val.2.2.length ≤ c5) (hmax : c5 ≤ maxLen) (hnil : A5 = none → c5 = 0) (hnew : 0 < x.val.2.2.length → ∃ g5, A5 = some ⟨g5, 0, none⟩ ∧ wr.heap.size ≤ g5)
    (ho : w8.ownsRow wc.heap.size 98 4 v8 (os.length + 1) (opsc os ++ opc ⟨x.kind, x.key, (A5, c5, x.val.2.2), x.n⟩)) (hg : w7.grownBy w8 v.ownBlock) (hb : v8.ownBlock = v.ownBlock ∨ v8.ownBlock = some w7.heap.size) :
    Loop wc (w8.setCell ⟨g, 3, none⟩ v8) t g A1 c1 A2 c2 v8 (os ++ [⟨x.kind, x.key, (A5, c5, x.val.2.2), x.n⟩]) := by
  have hbk := h.g8 hf hg
  have ho7 := own_fr h.own hf (fun _ _ h => h)
  have hgl : g < wr.heap.size := h.bk.lt
  have hwc : wc.heap.size ≤ wr.heap.size := h.fr.size
  have f8 : Fr (fun j => some j = v.ownBlock) w7 w8 := Fr.ofGrown hg
  have f9 : Fr (fun j => j = g) w8 (w8.setCell ⟨g, 3, none⟩ v8) := (Fr.refl (fun j => j = g) w8).setCell (p := ⟨g, 3, none⟩) (fun _ => rfl) v8
  have hvo : ∀ k, v.ownBlock = some k → k < wr.heap.size := fun k hk => (own_blk h.own hk).2
  have keep : ∀ (p : Prt), Part w7 p → (0 < p.2.2.length → ∀ k, ablk p.1 k → v.ownBlock ≠ some k ∧ k ≠ g) → Part (w8.setCell ⟨g, 3, none⟩ v8) p := fun p hp ha =>
    ⟨(hp.1.fr' f8 (fun hx k hk e => (ha (by rwa [cb_length] at hx) k hk).1 e.symm)).fr' f9 (fun hx k hk e => (ha (by rwa [cb_length] at hx) k hk).2 e), hp.2⟩
  refine ⟨hbk.put 3 v8, h.gl, ?_, ?_, ?_, ?_, ?_⟩
  · rw [List.length_append, opsc_append]
    have e : opsc [(⟨x.kind, x.key, (A5, c5, x.val.2.2), x.n⟩ : Opn)] = opc ⟨x.kind, x.key, (A5, c5, x.val.2.2), x.n⟩ := by simp [opsc]
    rw [e]
    exact own_fr ho f9 (fun k hk e => own_apart ho hbk (by decide) (e ▸ hk))
  · intro y hy
    rcases List.mem_append.1 hy with hy | hy
    · have h1 := h.vals y hy
      exact ⟨keep y.val ⟨h1.1.1.nofr hf, h1.1.2⟩ (fun hp k hk => ⟨(h.apart y hy hp k hk).1, by have := (h.apart y hy hp k hk).2; have := h.gl; omega⟩), h1.2⟩
    · rw [List.mem_singleton.1 hy]
      refine ⟨keep _ ⟨hr, hnil⟩ (fun hp k hk => ?_), hle, hmax⟩
      obtain ⟨g5, e5, hl5⟩ := hnew hp
      obtain ⟨a, ea, hk⟩ := hk
      change A5 = some a at ea
      rw [e5] at ea
      injection ea with ea
      subst ea
      simp only at hk
      subst hk
      exact ⟨fun e => by have := hvo _ e; omega, by omega⟩
  · intro y hy hp k hk
    rcases List.mem_append.1 hy with hy | hy
    · have h2 := h.apart y hy hp k hk
      refine ⟨?_, h2.2⟩
      rcases hb with e | e
      · rw [e]; exact h2.1
      · rw [e]
        intro ek
        injection ek with ek
        have := (h.vals y hy).1.1.lt (by rw [cb_length]; exact hp) hk
        have := hf.size
        omega
    · rw [List.mem_singleton.1 hy] at hp hk
      obtain ⟨g5, e5, hl5⟩ := hnew hp
      have hk7 : k < w7.heap.size := hr.lt (by rw [cb_length]; exact hp) hk
      obtain ⟨a, ea, hk⟩ := hk
      change A5 = some a at ea
      rw [e5] at ea
      injection ea with ea
      subst ea
      simp only at hk
      subst hk
      refine ⟨?_, by omega⟩
      rcases hb with e | e
      · rw [e]; intro e2; have := hvo _ e2; omega
      · rw [e]
        intro ek
        injection ek with ek
        omega
  · intro j y hj
    by_cases hlt : j < os.length
    · rw [List.getElem?_append_left hlt] at hj
      exact h.like j y hj
    · have hl := (List.getElem?_eq_some_iff.1 hj).1
      rw [List.length_append, List.length_singleton] at hl
      rw [List.getElem?_append_right (by omega), show j - os.length = 0 by omega] at hj
      simp only [List.getElem?_cons_zero, Option.some.injEq] at hj
      subst hj
      rw [show j = os.length by omega]
      exact ⟨x, hx, rfl, rfl, rfl, rfl⟩
  · refine ((h.fr.trans (hf.mono fun _ _ h => h.elim)).grown hg ?_).setCell (p := ⟨g, 3, none⟩) (fun _ => rfl) v8
    intro k hk hlt
    exact absurd (own_blk ho7 hk).1 (by omega)

/-- what has been copied so far: the transaction in block g, its lists, os of its operations. -/
structure Half (w wx : World) (t : Tx) (g : Nat) (A1 : Option Addr) (c1 : Nat) (A2 : Option Addr) (c2 : Nat) (v : Value) (os : List Opn) : Prop where
  bk : Bk wx g 35 #[.int .i64 t.kind, .slice A1 t.reads.length c1, .slice A2 t.writes.length c2, v, .int .i64 t.to]
  lt : w.heap.size + 1 < g
  rd1 : Rd wx A1 (sts t.reads)
  rd2 : Rd wx A2 (sts t.writes)
  l1 : t.reads.length ≤ c1 ∧ c1 ≤ maxLen ∧ (A1 = none → c1 = 0)
  l2 : t.writes.length ≤ c2 ∧ c2 ≤ maxLen ∧ (A2 = none → c2 = 0)
  own : wx.ownsRow w.heap.size 98 4 v os.length (opsc os)
  vals : ∀ x ∈ os, Part wx x.val ∧ x.val.2.2.length ≤ x.val.2.1 ∧ x.val.2.1 ≤ maxLen
  like : ∀ (j : Nat) (x : Opn), os[j]? = some x → ∃ y, t.ops[j]? = some y ∧ x.kind = y.kind ∧ x.key = y.key ∧ x.val.2.2 = y.val.2.2 ∧ x.n = y.n
  fr : Fr NoBlk w wx
  box : Bk wx w.heap.size 35 (txa t)
  res : Bk wx (w.heap.size + 1) 35 #[.int .i64 0, .slice none 0 0, .slice none 0 0, .slice none 0 0, .int .i64 0]

def Alike (xs ys : List Opn) : Prop := xs.length = ys.length ∧ ∀ (j : Nat) (x y : Opn), xs[j]? = some x → ys[j]? = some y → x.kind = y.kind ∧ x.key = y.key ∧ x.val.2.2 = y.val.2.2 ∧ x.n = y.n

/-- a transaction copied: alike, in memory of its own. -/
structure Copied (w w' : World) (t u : Tx) : Prop where
  inn : TxIn w' u
  kind : u.kind = t.kind
  to_ : u.to = t.to
  reads : u.reads = t.reads
  writes : u.writes = t.writes
  ops : Alike u.ops t.ops
  own : w'.ownsRow w.heap.size 98 4 (.slice u.oa u.ops.length u.oc) u.ops.length (opsc u.ops)
  fr : Fr NoBlk w w'
def CopyPost (w : World) (t : Tx) (e : Ending) (w' : World) : Prop := ∃ u, e = .returned (txv u) ∧ Copied w w' t u

def CopyLaw : Prop := ∀ (w : World) (t : Tx), TxIn w t → Small t → Calls Try.prog 51 #[txv t] w (CopyPost w t)

theorem Rd.notTxn {w : World} {A : Option Addr} {xs : List Bs} {g : Nat} {T : TypeId} {a e : Int} {b c d : Option Addr} {b1 b2 c1 c2 d1 d2 : Nat} (h : Rd w A (sts xs)) (hb : Bk w g T #[.int .i64 a, .slice b b1 b2, .slice c c1 c2, .slice d d1 d2, .int .i64 e])
    (hp : 0 < (sts xs).length) {k : Nat} (hk : ablk A k) : k ≠ g := by
  rintro rfl
  obtain ⟨bb, o, rfl, hc⟩ := h hp
  obtain ⟨ad, e1, e2⟩ := hk
  injection e1 with e1
  subst e1
  simp only at e2
  subst e2
  have h0 := hc 0 _ (List.getElem?_eq_getElem hp)
  rw [Nat.add_zero, hb.cell] at h0
  have hx : ∃ l, (sts xs)[0] = .string (bstr l) := by
    simp only [sts, List.getElem_map, st]
    exact ⟨_, rfl⟩
  obtain ⟨l, hl⟩ := hx
  rw [hl] at h0
  match o, h0 with
  | 0, h0 => simp at h0
  | 1, h0 => simp at h0
  | 2, h0 => simp at h0
  | 3, h0 => simp at h0
  | 4, h0 => simp at h0
  | o + 5, h0 => simp at h0

theorem Rd.of_ownN {w : World} {A : Option Addr} {xs : List Value} {base size : Nat} {e : TypeId} {n c : Nat} (h : w.ownsRow base e size (.slice A n c) n xs) : Rd w A xs := by
  intro hx
  rcases h.2 with ⟨hv, hn⟩ | ⟨g, cap, cur, hv, _, hh, hnc, _, hcs, htake⟩
  · have := h.1
    rw [hn] at this
    omega
  · have hA : A = some ⟨g, 0, none⟩ := by injection hv
    refine ⟨g, 0, hA, fun j v hj => ?_⟩
    rw [cell_of_row w g _ cur e (0, 0) hh, ← hj, ← htake, List.getElem?_take]
    have hl := (List.getElem?_eq_some_iff.1 hj).1
    rw [if_pos (by have := h.1; omega)]
    simp

theorem Loop.fin {w wc wr : World} {t : Tx} {g : Nat} {A1 A2 : Option Addr} {c1 c2 : Nat} {Av : Option Addr} {cv : Nat} {os : List Opn} (h0 : Half w wc t g A1 c1 A2 c2 (.slice none 0 0) []) (h : Loop wc wr t g A1 c1 A2 c2 (.slice Av os.length cv) os)
    (hl : os.length = t.ops.length) (ht : (∀ k ∈ t.reads, k.length ≤ maxLen) ∧ ∀ k ∈ t.writes, k.length ≤ maxLen) (hk : ∀ x ∈ t.ops, x.key.length ≤ maxLen) (hcv : os.length ≤ cv) (hcm : cv ≤ maxLen) (hAv : Av = none → cv = 0) {wz : World} (hz : Fr (fun k => k = w.heap.size + 1) wr wz) :
    Copied w wz t ⟨t.kind, A1, c1, t.reads, A2, c2, t.writes, Av, cv, os, t.to⟩ := by
  have hgne : w.heap.size + 1 ≠ g := by have := h0.lt; omega
  have hres := h0.res.fr h.fr hgne
  have hrl : w.heap.size + 1 < wc.heap.size := h0.res.lt
  have r1 : Rd wr A1 (sts t.reads) := h0.rd1.fr' h.fr (fun hp k hk => h0.rd1.notTxn h0.bk hp hk)
  have r2 : Rd wr A2 (sts t.writes) := h0.rd2.fr' h.fr (fun hp k hk => h0.rd2.notTxn h0.bk hp hk)
  have o9 := own_fr h.own hz (fun k hk e => own_apart h.own hres (by decide) (e ▸ hk))
  refine ⟨⟨r1.fr' hz (fun hp k hk => r1.notTxn hres hp hk), r2.fr' hz (fun hp k hk => r2.notTxn hres hp hk), Rd.of_ownN o9, ?_, ht, h0.l1, h0.l2, ⟨hcv, hcm, hAv⟩⟩, rfl, rfl, rfl, rfl, ⟨hl, ?_⟩, own_base o9 ?_, ?_⟩
  · intro x hx
    have h1 := h.vals x hx
    obtain ⟨j, hj, rfl⟩ := List.getElem_of_mem hx
    obtain ⟨y, hy, e1, e2, e3, e4⟩ := h.like j _ (List.getElem?_eq_getElem hj)
    refine ⟨⟨h1.1.1.fr' hz (fun hp k hk e => ?_), h1.1.2⟩, h1.2.1, h1.2.2, ?_⟩
    · have := (h.apart _ hx (by rwa [cb_length] at hp) k hk).2
      omega
    · rw [e2]; exact hk y (List.mem_of_getElem? hy)
  · intro j x y hx hy
    obtain ⟨y', hy', e⟩ := h.like j x hx
    rw [hy] at hy'
    injection hy' with hy'
    subst hy'
    exact e
  · exact h0.fr.size
  · exact (h0.fr.step h.fr (fun i hi e => by have := h0.lt; omega)).step hz (fun i hi e => by omega)

theorem byteInfo : (Try.prog.info? 5).map (fun i => (i.zero, i.size, i.bytes)) = some (some (.int .u8 0), 1, 1) := by kernel_rfl
theorem opInfo : (Try.prog.info? 98).map (fun i => (i.zero, i.size, i.bytes)) = some (some (.agg #[.int .i64 0, .string ByteArray.empty, .slice none 0 0, .int .i64 0]), 4, 56) := by kernel_rfl
theorem strInfo : (Try.prog.info? 9).map (fun i => (i.zero, i.size, i.bytes)) = some (some (.string ByteArray.empty), 1, 16) := by kernel_rfl
theorem sts_one (xs : List Bs) : ∀ u ∈ sts xs, u.oneCell' = true := by
  intro u hu
  simp only [sts, List.mem_map] at hu
  obtain ⟨x, _, rfl⟩ := hu
  rfl
theorem sts_len (xs : List Bs) : (sts xs).length = xs.length := by simp [sts]

theorem kFr {w : World} {t : Tx} {W w1 : World} (hf : Fr NoBlk W w1) (h : W.cell? ⟨w.heap.size, 0, none⟩ = some (.int .i64 t.kind) ∧ W.cell? ⟨w.heap.size, 4, none⟩ = some (.int .i64 t.to) ∧ W.cell? ⟨w.heap.size, 1, none⟩ = some (.slice t.ra t.reads.length t.rc) ∧ W.cell? ⟨w.heap.size, 2, none⟩ = some (.slice t.wa t.writes.length t.wc)) :
    w1.cell? ⟨w.heap.size, 0, none⟩ = some (.int .i64 t.kind) ∧ w1.cell? ⟨w.heap.size, 4, none⟩ = some (.int .i64 t.to) ∧ w1.cell? ⟨w.heap.size, 1, none⟩ = some (.slice t.ra t.reads.length t.rc) ∧ w1.cell? ⟨w.heap.size, 2, none⟩ = some (.slice t.wa t.writes.length t.wc) := by
  have hl := World.block_lt_of_cell? W _ h.1
  exact ⟨(hf.cell (p := ⟨w.heap.size, 0, none⟩) hl (fun h => h)).trans h.1, (hf.cell (p := ⟨w.heap.size, 4, none⟩) hl (fun h => h)).trans h.2.1, (hf.cell (p := ⟨w.heap.size, 1, none⟩) hl (fun h => h)).trans h.2.2.1, (hf.cell (p := ⟨w.heap.size, 2, none⟩) hl (fun h => h)).trans h.2.2.2⟩
theorem kAlloc {w : World} {t : Tx} {W : World} {o : Obj} (h : W.cell? ⟨w.heap.size, 0, none⟩ = some (.int .i64 t.kind) ∧ W.cell? ⟨w.heap.size, 4, none⟩ = some (.int .i64 t.to) ∧ W.cell? ⟨w.heap.size, 1, none⟩ = some (.slice t.ra t.reads.length t.rc) ∧ W.cell? ⟨w.heap.size, 2, none⟩ = some (.slice t.wa t.writes.length t.wc)) :
    (W.alloc o).cell? ⟨w.heap.size, 0, none⟩ = some (.int .i64 t.kind) ∧ (W.alloc o).cell? ⟨w.heap.size, 4, none⟩ = some (.int .i64 t.to) ∧ (W.alloc o).cell? ⟨w.heap.size, 1, none⟩ = some (.slice t.ra t.reads.length t.rc) ∧ (W.alloc o).cell? ⟨w.heap.size, 2, none⟩ = some (.slice t.wa t.writes.length t.wc) := kFr ((Fr.refl _ _).alloc o) h
theorem kSet {w : World} {t : Tx} {W : World} {p : Addr} {u : Value} (hp : p.block ≠ w.heap.size) (h : W.cell? ⟨w.heap.size, 0, none⟩ = some (.int .i64 t.kind) ∧ W.cell? ⟨w.heap.size, 4, none⟩ = some (.int .i64 t.to) ∧ W.cell? ⟨w.heap.size, 1, none⟩ = some (.slice t.ra t.reads.length t.rc) ∧ W.cell? ⟨w.heap.size, 2, none⟩ = some (.slice t.wa t.writes.length t.wc)) :
    (W.setCell p u).cell? ⟨w.heap.size, 0, none⟩ = some (.int .i64 t.kind) ∧ (W.setCell p u).cell? ⟨w.heap.size, 4, none⟩ = some (.int .i64 t.to) ∧ (W.setCell p u).cell? ⟨w.heap.size, 1, none⟩ = some (.slice t.ra t.reads.length t.rc) ∧ (W.setCell p u).cell? ⟨w.heap.size, 2, none⟩ = some (.slice t.wa t.writes.length t.wc) :=
  ⟨(World.cell?_setCell_far W p ⟨w.heap.size, 0, none⟩ u hp).trans h.1, (World.cell?_setCell_far W p ⟨w.heap.size, 4, none⟩ u hp).trans h.2.1, (World.cell?_setCell_far W p ⟨w.heap.size, 1, none⟩ u hp).trans h.2.2.1, (World.cell?_setCell_far W p ⟨w.heap.size, 2, none⟩ u hp).trans h.2.2.2⟩
theorem kAllocD {w : World} {t : Tx} {W : World} {o : Obj} (h : W.drew.cell? ⟨w.heap.size, 0, none⟩ = some (.int .i64 t.kind) ∧ W.drew.cell? ⟨w.heap.size, 4, none⟩ = some (.int .i64 t.to) ∧ W.drew.cell? ⟨w.heap.size, 1, none⟩ = some (.slice t.ra t.reads.length t.rc) ∧ W.drew.cell? ⟨w.heap.size, 2, none⟩ = some (.slice t.wa t.writes.length t.wc)) :
    (W.alloc o).drew.cell? ⟨w.heap.size, 0, none⟩ = some (.int .i64 t.kind) ∧ (W.alloc o).drew.cell? ⟨w.heap.size, 4, none⟩ = some (.int .i64 t.to) ∧ (W.alloc o).drew.cell? ⟨w.heap.size, 1, none⟩ = some (.slice t.ra t.reads.length t.rc) ∧ (W.alloc o).drew.cell? ⟨w.heap.size, 2, none⟩ = some (.slice t.wa t.writes.length t.wc) := kAlloc (W := W) h
theorem kLit {w : World} {t : Tx} {W : World} {o o' : Obj} (h : (W.alloc o).cell? ⟨w.heap.size, 0, none⟩ = some (.int .i64 t.kind) ∧ (W.alloc o).cell? ⟨w.heap.size, 4, none⟩ = some (.int .i64 t.to) ∧ (W.alloc o).cell? ⟨w.heap.size, 1, none⟩ = some (.slice t.ra t.reads.length t.rc) ∧ (W.alloc o).cell? ⟨w.heap.size, 2, none⟩ = some (.slice t.wa t.writes.length t.wc)) (hl : w.heap.size < W.heap.size) :
    (W.alloc o').cell? ⟨w.heap.size, 0, none⟩ = some (.int .i64 t.kind) ∧ (W.alloc o').cell? ⟨w.heap.size, 4, none⟩ = some (.int .i64 t.to) ∧ (W.alloc o').cell? ⟨w.heap.size, 1, none⟩ = some (.slice t.ra t.reads.length t.rc) ∧ (W.alloc o').cell? ⟨w.heap.size, 2, none⟩ = some (.slice t.wa t.writes.length t.wc) := by
  have e : ∀ (p : Addr), p.block = w.heap.size → (W.alloc o').cell? p = (W.alloc o).cell? p := fun p hp => by
    rw [World.cell?_alloc_lt W o' p (by omega), World.cell?_alloc_lt W o p (by omega)]
  exact ⟨(e _ rfl).trans h.1, (e _ rfl).trans h.2.1, (e _ rfl).trans h.2.2.1, (e _ rfl).trans h.2.2.2⟩
theorem kLitD {w : World} {t : Tx} {W : World} {o o' : Obj} (h : (W.alloc o).drew.cell? ⟨w.heap.size, 0, none⟩ = some (.int .i64 t.kind) ∧ (W.alloc o).drew.cell? ⟨w.heap.size, 4, none⟩ = some (.int .i64 t.to) ∧ (W.alloc o).drew.cell? ⟨w.heap.size, 1, none⟩ = some (.slice t.ra t.reads.length t.rc) ∧ (W.alloc o).drew.cell? ⟨w.heap.size, 2, none⟩ = some (.slice t.wa t.writes.length t.wc)) (hl : w.heap.size < W.heap.size) :
    (W.alloc o').drew.cell? ⟨w.heap.size, 0, none⟩ = some (.int .i64 t.kind) ∧ (W.alloc o').drew.cell? ⟨w.heap.size, 4, none⟩ = some (.int .i64 t.to) ∧ (W.alloc o').drew.cell? ⟨w.heap.size, 1, none⟩ = some (.slice t.ra t.reads.length t.rc) ∧ (W.alloc o').drew.cell? ⟨w.heap.size, 2, none⟩ = some (.slice t.wa t.writes.length t.wc) := kLit (W := W) h hl
theorem kStart {w : World} {t : Tx} {o : Obj} :
    ((w.alloc (.cells #[.int .i64 t.kind, .slice t.ra t.reads.length t.rc, .slice t.wa t.writes.length t.wc, .slice t.oa t.ops.length t.oc, .int .i64 t.to] 35)).alloc o).drew.cell? ⟨w.heap.size, 0, none⟩ = some (.int .i64 t.kind) ∧ ((w.alloc (.cells #[.int .i64 t.kind, .slice t.ra t.reads.length t.rc, .slice t.wa t.writes.length t.wc, .slice t.oa t.ops.length t.oc, .int .i64 t.to] 35)).alloc o).drew.cell? ⟨w.heap.size, 4, none⟩ = some (.int .i64 t.to) ∧ ((w.alloc (.cells #[.int .i64 t.kind, .slice t.ra t.reads.length t.rc, .slice t.wa t.writes.length t.wc, .slice t.oa t.ops.length t.oc, .int .i64 t.to] 35)).alloc o).drew.cell? ⟨w.heap.size, 1, none⟩ = some (.slice t.ra t.reads.length t.rc) ∧ ((w.alloc (.cells #[.int .i64 t.kind, .slice t.ra t.reads.length t.rc, .slice t.wa t.writes.length t.wc, .slice t.oa t.ops.length t.oc, .int .i64 t.to] 35)).alloc o).drew.cell? ⟨w.heap.size, 2, none⟩ = some (.slice t.wa t.writes.length t.wc) :=
  have hb := (Bk.new w 35 #[.int .i64 t.kind, .slice t.ra t.reads.length t.rc, .slice t.wa t.writes.length t.wc, .slice t.oa t.ops.length t.oc, .int .i64 t.to]).alloc o
  ⟨hb.cell 0, hb.cell 4, hb.cell 1, hb.cell 2⟩
theorem Bk.cast {w : World} {g : Nat} {T : TypeId} {cs cs' : Array Value} (h : Bk w g T cs) (e : cs = cs') : Bk w g T cs' := e ▸ h
theorem Got.keep {W w1 wx : World} {m : Nat} {news : List Value} {A : Option Addr} {c V : Nat} (h : Got W w1 m news A c) (hl : news.length = m) (hf : Fr (fun k => k = V) w1 wx) (hV : V < W.heap.size ∨ w1.heap.size ≤ V) : Rd wx A news := by
  refine h.rd.fr' hf fun hp k hk e => ?_
  subst e
  rcases hV with hV | hV
  · obtain ⟨g, hg, hgl⟩ := h.new (by omega)
    obtain ⟨b, hb, hbk⟩ := hk
    rw [hg] at hb
    injection hb with hb
    subst hb
    simp only at hbk
    omega
  · exact absurd (h.rd.lt hp hk) (by omega)
theorem Bk.fr0 {w w' : World} {g : Nat} {T : TypeId} {cs : Array Value} (h : Bk w g T cs) (hf : Fr NoBlk w w') : Bk w' g T cs := h.fr hf (fun h => h)
theorem Fr.putV {V j : Nat} {a w : World} {u : Value} (h : Fr (fun k => k = V) a w) : Fr (fun k => k = V) a (w.setCell ⟨V, j, none⟩ u) := h.setCell (p := ⟨V, j, none⟩) (fun _ => rfl) u
theorem Fr.via {V : Nat} {a b w : World} (h : Fr (fun k => k = V) a b) (k : Fr NoBlk b w) : Fr (fun k => k = V) a w := h.trans (k.mono fun _ _ h => h.elim)
theorem close_half {w wx W1 w1 W2 w2 : World} {t : Tx} {A1 A2 : Option Addr} {c1 c2 g : Nat} {cs : Array Value} (hbk : Bk wx g 35 cs) (hcs : cs = #[.int .i64 t.kind, .slice A1 t.reads.length c1, .slice A2 t.writes.length c2, .slice none 0 0, .int .i64 t.to]) (hlt : w.heap.size + 1 < g)
    (h1 : Got W1 w1 t.reads.length (sts t.reads) A1 c1) (h2 : Got W2 w2 t.writes.length (sts t.writes) A2 c2) (f1 : Fr (fun k => k = g) w1 wx) (f2 : Fr (fun k => k = g) w2 wx)
    (v1 : g < W1.heap.size ∨ w1.heap.size ≤ g) (v2 : g < W2.heap.size ∨ w2.heap.size ≤ g) (f : Fr (fun k => k = g) ((w.alloc (.cells #[.int .i64 t.kind, .slice t.ra t.reads.length t.rc, .slice t.wa t.writes.length t.wc, .slice t.oa t.ops.length t.oc, .int .i64 t.to] 35)).alloc (.cells #[.int .i64 0, .slice none 0 0, .slice none 0 0, .slice none 0 0, .int .i64 0] 35)) wx) :
    Half w wx t g A1 c1 A2 c2 (.slice none 0 0) [] := by
  subst hcs
  refine ⟨hbk, hlt, h1.keep (sts_len _) f1 v1, h2.keep (sts_len _) f2 v2, ⟨h1.le, h1.max, h1.nil⟩, ⟨h2.le, h2.max, h2.nil⟩, World.ownsRow_nil _ _ _ _, (fun _ h => by cases h), (fun _ _ h => by cases h), ?_, ((Bk.new w _ (txa t)).alloc _).fr f (by omega), (Bk.new2 w _ _ _).fr f (by omega)⟩
  exact (((Fr.refl NoBlk w).alloc _).alloc _).step f (fun i hi e => by omega)


theorem close_lit {w wy W1 w1 W2 w2 : World} {t : Tx} {A1 A2 : Option Addr} {c1 c2 g : Nat} (hbk : Bk wy g 35 #[.int .i64 t.kind, .slice A1 t.reads.length c1, .slice A2 t.writes.length c2, .slice none 0 0, .int .i64 t.to]) (hlt : w.heap.size + 1 < g)
    (h1 : Got W1 w1 t.reads.length (sts t.reads) A1 c1) (h2 : Got W2 w2 t.writes.length (sts t.writes) A2 c2) (f1 : Fr (fun k => k = g) w1 wy) (f2 : Fr (fun k => k = g) w2 wy)
    (v1 : g < W1.heap.size ∨ w1.heap.size ≤ g) (v2 : g < W2.heap.size ∨ w2.heap.size ≤ g) (f : Fr (fun k => k = g) ((w.alloc (.cells #[.int .i64 t.kind, .slice t.ra t.reads.length t.rc, .slice t.wa t.writes.length t.wc, .slice t.oa t.ops.length t.oc, .int .i64 t.to] 35)).alloc (.cells #[.int .i64 0, .slice none 0 0, .slice none 0 0, .slice none 0 0, .int .i64 0] 35)) wy) :
    Half w wy t g A1 c1 A2 c2 (.slice none 0 0) [] := close_half hbk rfl hlt h1 h2 f1 f2 v1 v2 f
theorem close_put {w wy W1 w1 W2 w2 : World} {t : Tx} {A1 A2 : Option Addr} {c1 c2 g : Nat} (hbk : Bk wy g 35 #[.int .i64 0, .slice none 0 0, .slice none 0 0, .slice none 0 0, .int .i64 0]) (hlt : w.heap.size + 1 < g)
    (h1 : Got W1 w1 t.reads.length (sts t.reads) A1 c1) (h2 : Got W2 w2 t.writes.length (sts t.writes) A2 c2) (f1 : Fr (fun k => k = g) w1 wy) (f2 : Fr (fun k => k = g) w2 wy)
    (v1 : g < W1.heap.size ∨ w1.heap.size ≤ g) (v2 : g < W2.heap.size ∨ w2.heap.size ≤ g) (f : Fr (fun k => k = g) ((w.alloc (.cells #[.int .i64 t.kind, .slice t.ra t.reads.length t.rc, .slice t.wa t.writes.length t.wc, .slice t.oa t.ops.length t.oc, .int .i64 t.to] 35)).alloc (.cells #[.int .i64 0, .slice none 0 0, .slice none 0 0, .slice none 0 0, .int .i64 0] 35)) wy) :
    Half w (((((wy.setCell ⟨g, 0, none⟩ (.int .i64 t.kind)).setCell ⟨g, 1, none⟩ (.slice A1 t.reads.length c1)).setCell ⟨g, 2, none⟩ (.slice A2 t.writes.length c2)).setCell ⟨g, 3, none⟩ (.slice none 0 0)).setCell ⟨g, 4, none⟩ (.int .i64 t.to)) t g A1 c1 A2 c2 (.slice none 0 0) [] :=
  close_half (((((hbk.put 0 _).put 1 _).put 2 _).put 3 _).put 4 _) rfl hlt h1 h2 (f1.putV.putV.putV.putV.putV) (f2.putV.putV.putV.putV.putV) v1 v2 (f.putV.putV.putV.putV.putV)
end Go.Proofs.Ytdgjjkmgdjiliaa
