/- Links beside a law's own rows. Conditions: few data, small ones. -/
import Derived.Test.YtchlafhmoncldaaAgP
namespace Go.Proofs.Ytchlafhmoncldaa
open Go.RowKit Go.Maps Go.ChangeMaps Go.MapKept Go.WideShapes

/-- blocks made since w that are none of S. -/
def OutL (w : World) (S : Nat → Prop) : Nat → Prop := fun k => w.heap.size ≤ k ∧ ¬ S k
theorem OutL.none_ {w W W' : World} {S : Nat → Prop} (hf : Fr NoBlk w W) (h : Fr (OutL w S) W W') : Fr NoBlk w W' := hf.step h fun k hk e => by have := e.1; omega
/-- the same, and no bytes. -/
def OutB (w W : World) (S : Nat → Prop) : Nat → Prop := fun k => w.heap.size ≤ k ∧ ¬ S k ∧ ¬ Byt W k
theorem OutB.out {w W W' : World} {S : Nat → Prop} (h : Fr (OutB w W S) W W') : Fr (OutL w S) W W' := h.mono fun _ _ e => ⟨e.1, e.2.1⟩
theorem own_ob {w W W' : World} {S : Nat → Prop} {base n : Nat} {v : Value} {xs : List Value} (h : W.ownsRow base 5 1 v n xs) (hf : Fr (OutB w W S) W W') : W'.ownsRow base 5 1 v n xs := own_fr h hf fun _ hk e => e.2.2 (Byt.own h hk)
/-- two links, and blocks of S beside them. -/
structure T2 (w W : World) (S : Nat → Prop) (ga gb : Nat) (La Lb : Lk) : Prop where
  ex : ∃ Oa Ob, Two w W ga gb Oa Ob La Lb ∧ ∀ k, Oa k ∨ Ob k → ¬ S k
  le : ∀ k, S k → k < W.heap.size
theorem T2.fr {w W : World} {S : Nat → Prop} {ga gb : Nat} {La Lb : Lk} (h : T2 w W S ga gb La Lb) : Fr NoBlk w W := by
  obtain ⟨Oa, Ob, h1, _⟩ := h.ex
  exact h1.fr
theorem T2.swap {w W : World} {S : Nat → Prop} {ga gb : Nat} {La Lb : Lk} (h : T2 w W S ga gb La Lb) : T2 w W S gb ga Lb La := by
  obtain ⟨Oa, Ob, h1, h2⟩ := h.ex
  exact ⟨⟨Ob, Oa, h1.swap, fun k hk => h2 k hk.symm⟩, h.le⟩
theorem T2.far {w W W' : World} {S : Nat → Prop} {ga gb : Nat} {La Lb : Lk} (h : T2 w W S ga gb La Lb) (hf : Fr S W W') (hw : Fr NoBlk w W') : T2 w W' S ga gb La Lb := by
  obtain ⟨Oa, Ob, h1, h2⟩ := h.ex
  exact ⟨⟨Oa, Ob, ⟨h1.a.fr hf fun k hk => h2 k (.inl hk), h1.b.fr hf fun k hk => h2 k (.inr hk), h1.dis, h1.na, h1.nb, hw⟩, h2⟩, fun k hk => Nat.lt_of_lt_of_le (h.le k hk) hf.size⟩
theorem T2.sub {w W W' : World} {S S' : Nat → Prop} {ga gb : Nat} {La Lb : Lk} (h : T2 w W S ga gb La Lb) (hS : ∀ k, S' k → S k ∨ W.heap.size ≤ k) (hf : Fr NoBlk W W') (hl : ∀ k, S' k → k < W'.heap.size) : T2 w W' S' ga gb La Lb := by
  obtain ⟨Oa, Ob, h1, h2⟩ := h.ex
  refine ⟨⟨Oa, Ob, h1.still hf, fun k hk e => ?_⟩, hl⟩
  rcases hS k e with e | e
  · exact h2 k hk e
  · rcases hk with hk | hk
    · have := h1.a.ol k hk; omega
    · have := h1.b.ol k hk; omega
theorem T2.both {w W W' : World} {S S' : Nat → Prop} {ga gb : Nat} {La Lb : Lk} (h : T2 w W S ga gb La Lb) (hf : Fr S W W') (hw : Fr NoBlk w W') (hS : ∀ k, S' k → S k ∨ W.heap.size ≤ k) (hl : ∀ k, S' k → k < W'.heap.size) : T2 w W' S' ga gb La Lb := by
  obtain ⟨Oa, Ob, h1, h2⟩ := h.ex
  refine ⟨⟨Oa, Ob, ⟨h1.a.fr hf fun k hk => h2 k (.inl hk), h1.b.fr hf fun k hk => h2 k (.inr hk), h1.dis, h1.na, h1.nb, hw⟩, fun k hk e => ?_⟩, hl⟩
  rcases hS k e with e | e
  · exact h2 k hk e
  · rcases hk with hk | hk
    · have := h1.a.ol k hk; omega
    · have := h1.b.ol k hk; omega
theorem T2.packets {w W : World} {S : Nat → Prop} {ga gb : Nat} {La Lb : Lk} (h : T2 w W S ga gb La Lb) (hd : ∀ p ∈ La.sent, p.2.2.length ≤ 1000000) : Calls Try.prog 18 #[.pointer (some ⟨ga, 0, none⟩)] W (PacketsPost W La) := by
  obtain ⟨Oa, Ob, h1, h2⟩ := h.ex
  exact packets_any W Oa ga La h1.a hd
theorem T2.step {w W W' : World} {S : Nat → Prop} {ga gb : Nat} {La La' Lb : Lk} {Oa Ob Oa' : Nat → Prop} (h1 : Two w W ga gb Oa Ob La Lb) (h2 : ∀ k, Oa k ∨ Ob k → ¬ S k) (hle : ∀ k, S k → k < W.heap.size) (hl : LkIn Oa' W' ga La') (hO : ∀ k, Oa' k → Oa k ∨ W.heap.size ≤ k) (hf : Fr (St Oa W) W W') :
    T2 w W' S ga gb La' Lb ∧ Fr (OutL w S) W W' :=
  ⟨⟨⟨Oa', Ob, h1.stepA hl hO hf, fun k hk e => by
    rcases hk with hk | hk
    · rcases hO k hk with h3 | h3
      · exact h2 k (.inl h3) e
      · have := hle k e; omega
    · exact h2 k (.inr hk) e⟩, fun k hk => Nat.lt_of_lt_of_le (hle k hk) hf.size⟩, hf.mono fun k _ e => ⟨h1.na k e.1, h2 k (.inl e.1)⟩⟩
theorem T2.send {w W : World} {S : Nat → Prop} {ga gb : Nat} {La Lb : Lk} (h : T2 w W S ga gb La Lb) (A : Option Addr) (c : Nat) (d : Bs) (hr : Rd W A (cb d)) (hA : A = none → c = 0) (hd : d.length ≤ 1000000) :
    Calls Try.prog 12 #[.pointer (some ⟨ga, 0, none⟩), .slice A d.length c] W fun e W' => Fr (OutL w S) W W' ∧ ((16 ≤ La.sent.length ∧ e = .returned (.int .i64 2) ∧ T2 w W' S ga gb La Lb) ∨ (La.sent.length < 16 ∧ e = .returned (.int .i64 0) ∧ ∃ A' c' A2 c2, T2 w W' S ga gb { La with sa := A', sc := c', sent := La.sent ++ [(A2, c2, d)] } Lb)) := by
  obtain ⟨Oa, Ob, h1, h2⟩ := h.ex
  refine (send_any W Oa ga La h1.a A c d hr hA hd).mono ?_
  intro e W' hs
  unfold SendPost at hs
  by_cases h16 : 16 ≤ La.sent.length
  · rw [if_pos h16] at hs
    obtain ⟨rfl, rfl⟩ := hs
    exact ⟨Fr.refl _ _, .inl ⟨h16, rfl, h⟩⟩
  · rw [if_neg h16] at hs
    obtain ⟨rfl, hf, A', c', A2, c2, hl⟩ := hs
    obtain ⟨q1, q2⟩ := T2.step h1 h2 h.le hl (fun k hk => hk.imp id fun h => h.1) hf
    exact ⟨q2, .inr ⟨by omega, rfl, A', c', A2, c2, q1⟩⟩
theorem T2.recv {w W : World} {S : Nat → Prop} {ga gb : Nat} {La Lb : Lk} (h : T2 w W S ga gb La Lb) (P : Pk) (hep : P.ep < 2 ^ 64) (hsq : P.sq < 2 ^ 64) (hak : P.ak < 2 ^ 64) (hd : P.d = (none, 0, [])) (hx : La.expects < 2 ^ 62) (hn : La.n ≤ 1000000) :
    Calls Try.prog 14 #[.pointer (some ⟨ga, 0, none⟩), .agg (pka P)] W fun e W' => Fr (OutL w S) W W' ∧ ∃ A n c B m c' ps xs La', e = .returned (.tuple #[.slice A n c, .slice B m c']) ∧ RecD La P ps xs La' ∧ T2 w W' S ga gb La' Lb := by
  obtain ⟨Oa, Ob, h1, h2⟩ := h.ex
  refine (rec_any W Oa ga La h1.a P hep hsq hak (fun _ _ => by rw [hd]; exact Rd.nil_ _ _) (by rw [hd]; exact fun _ => rfl) (by rw [hd]; simp) hx hn).mono ?_
  rintro e W' ⟨A, c, ps, B, c', xs, O', L', rfl, hr⟩
  obtain ⟨q1, q2⟩ := T2.step h1 h2 h.le hr.lk hr.blks.2 hr.fr
  exact ⟨q2, A, _, c, B, _, c', ps, xs, L', rfl, hr.data, q1⟩
/-- one link, and blocks of S beside it. -/
structure LS (w W : World) (S : Nat → Prop) (g : Nat) (L : Lk) : Prop where
  ex : ∃ O, LkIn O W g L ∧ ∀ k, O k → w.heap.size ≤ k ∧ ¬ S k
  le : ∀ k, S k → k < W.heap.size
  fr : Fr NoBlk w W
theorem T2.ls {w W : World} {S : Nat → Prop} {ga gb : Nat} {La Lb : Lk} (h : T2 w W S ga gb La Lb) : LS w W S gb Lb := by
  obtain ⟨Oa, Ob, h1, h2⟩ := h.ex
  exact ⟨⟨Ob, h1.b, fun k hk => ⟨h1.nb k hk, h2 k (.inr hk)⟩⟩, h.le, h1.fr⟩
theorem LS.far {w W W' : World} {S : Nat → Prop} {g : Nat} {L : Lk} (h : LS w W S g L) (hf : Fr S W W') (hw : Fr NoBlk w W') : LS w W' S g L := by
  obtain ⟨O, h1, h2⟩ := h.ex
  exact ⟨⟨O, h1.fr hf fun k hk => (h2 k hk).2, h2⟩, fun k hk => Nat.lt_of_lt_of_le (h.le k hk) hf.size, hw⟩
theorem LS.nofr {w W W' : World} {S : Nat → Prop} {g : Nat} {L : Lk} (h : LS w W S g L) (hf : Fr NoBlk W W') : LS w W' S g L := h.far (hf.mono fun _ _ e => e.elim) (h.fr.trans hf)
theorem LS.sub {w W W' : World} {S S' : Nat → Prop} {g : Nat} {L : Lk} (h : LS w W S g L) (hS : ∀ k, S' k → S k ∨ W.heap.size ≤ k) (hf : Fr NoBlk W W') (hl : ∀ k, S' k → k < W'.heap.size) : LS w W' S' g L := by
  obtain ⟨O, h1, h2⟩ := h.ex
  refine ⟨⟨O, h1.nofr hf, fun k hk => ⟨(h2 k hk).1, fun e => ?_⟩⟩, hl, h.fr.trans hf⟩
  rcases hS k e with e | e
  · exact (h2 k hk).2 e
  · have := h1.ol k hk; omega
theorem LS.recv {w W : World} {S : Nat → Prop} {g : Nat} {L : Lk} (h : LS w W S g L) (P : Pk) (hep : P.ep < 2 ^ 64) (hsq : P.sq < 2 ^ 64) (hak : P.ak < 2 ^ 64) {base : Nat} (hd : W.ownsRow base 5 1 (sl P.d) P.d.2.2.length (cb P.d.2.2)) (hdl : P.d.2.2.length ≤ 1000000) (hx : L.expects < 2 ^ 62) (hn : L.n ≤ 1000000) :
    Calls Try.prog 14 #[.pointer (some ⟨g, 0, none⟩), .agg (pka P)] W fun e W' => Fr (OutB w W S) W W' ∧ ∃ A c ps B m c' xs L', e = .returned (.tuple #[.slice A ps.length c, .slice B m c']) ∧ RecD L P ps xs L' ∧ LS w W' S g L' ∧
      W'.ownsRow w.heap.size 30 1 (.slice A ps.length c) ps.length (ps.map sl) ∧ ∀ q ∈ ps, W'.ownsRow 0 5 1 (sl q) q.2.2.length (cb q.2.2) := by
  obtain ⟨O, h1, h2⟩ := h.ex
  refine (rec_any W O g L h1 P hep hsq hak (fun w' hf => Rd.of_own (own_st hd hf)) (own_lens hd).2.2 hdl hx hn).mono ?_
  rintro e W' ⟨A, c, ps, B, c', xs, O', L', rfl, hr⟩
  have hf : Fr (OutB w W S) W W' := hr.fr.mono fun k _ e => ⟨(h2 k e.1).1, (h2 k e.1).2, e.2⟩
  refine ⟨hf, A, c, ps, B, _, c', xs, L', rfl, hr.data, ⟨⟨O', hr.lk, fun k hk => ?_⟩, fun k hk => Nat.lt_of_lt_of_le (h.le k hk) hf.size, OutL.none_ h.fr (OutB.out hf)⟩, own_base hr.own h.fr.size, fun q hq => (hr.parts q hq).1⟩
  rcases hr.blks.2 k hk with h3 | h3
  · exact h2 k h3
  · have := h.fr.size
    exact ⟨by omega, fun e => by have := h.le k e; omega⟩

def Kr (G : Option Addr) (n c : Nat) : Nat → Prop := fun k => (Value.slice G n c).ownBlock = some k
/-- the law's three rows: got, packets, sent; the side that gets. -/
structure AgAll (w W : World) (gb : Nat) (D : List Bs) (K : Nat → Prop) (t : Nat) (gv : List Bs) (G : Option Addr) (cG : Nat) (gs : List Prt) (B : Option Addr) (cB : Nat) (xs : List Pk) (A : Option Addr) (cA : Nat) (ds : List Prt) : Prop where
  ls : ∃ L, LS w W (fun k => Kr G gs.length cG k ∨ Kr B xs.length cB k ∨ Kr A ds.length cA k) gb L ∧ Ag D K t L gv
  got : W.ownsRow w.heap.size 30 1 (.slice G gs.length cG) gs.length (gs.map sl)
  parts : ∀ q ∈ gs, W.ownsRow 0 5 1 (sl q) q.2.2.length (cb q.2.2)
  pks : PksIn w W B cB xs
  sent : W.ownsRow w.heap.size 30 1 (.slice A ds.length cA) ds.length (ds.map sl)
  apart : ∀ k, Kr G gs.length cG k → ¬ Kr A ds.length cA k
section
variable {w W W' : World} {gb : Nat} {D : List Bs} {K : Nat → Prop} {t : Nat} {gv : List Bs} {G : Option Addr} {cG : Nat} {gs : List Prt} {B : Option Addr} {cB : Nat} {xs : List Pk} {A : Option Addr} {cA : Nat} {ds : List Prt} (h : AgAll w W gb D K t gv G cG gs B cB xs A cA ds)
include h
theorem AgAll.fr : Fr NoBlk w W := by
  obtain ⟨L, h1, _⟩ := h.ls
  exact h1.fr
theorem AgAll.nofr (hf : Fr NoBlk W W') : AgAll w W' gb D K t gv G cG gs B cB xs A cA ds := by
  obtain ⟨L, h1, h2⟩ := h.ls
  exact ⟨⟨L, h1.nofr hf, h2⟩, own_fr h.got hf fun _ _ e => e, fun q hq => own_fr (h.parts q hq) hf fun _ _ e => e, h.pks.nofr hf, own_fr h.sent hf fun _ _ e => e, h.apart⟩
theorem AgAll.weak {K' : Nat → Prop} (hK : ∀ k, K' k → K k) : AgAll w W gb D K' t gv G cG gs B cB xs A cA ds := by
  obtain ⟨L, h1, h2⟩ := h.ls
  exact ⟨⟨L, h1, ⟨h2.ep, h2.pe, h2.ba, h2.lo, h2.hi, h2.num, h2.got, h2.ear, fun k hk => h2.cov k (hK k hk)⟩⟩, h.got, h.parts, h.pks, h.sent, h.apart⟩
/-- a packet comes. -/
theorem AgAll.recv (hD : D.length ≤ 16) (hpk : ∀ j x, xs[j]? = some x → x.ep = 2 ∧ x.pe = 9 ∧ x.sq = j + 1 ∧ x.ak = 0 ∧ D[j]? = some x.d.2.2) (hsm : ∀ x ∈ xs, x.d.2.2.length ≤ 1000000) (ht : t ≤ 1000) {j : Nat} {x : Pk} (hx : xs[j]? = some x) :
    Calls Try.prog 14 #[.pointer (some ⟨gb, 0, none⟩), .agg (pka x)] W fun e W' => ∃ E c ps F m c', e = .returned (.tuple #[.slice E ps.length c, .slice F m c']) ∧ AgAll w W' gb D (fun k => K k ∨ k = j) (t + 1) (gv ++ ps.map (·.2.2)) G cG gs B cB xs A cA ds ∧
      ((∀ k, k < D.length → K k) → ps = []) ∧ W'.ownsRow w.heap.size 30 1 (.slice E ps.length c) ps.length (ps.map sl) ∧ ∀ q ∈ ps, W'.ownsRow 0 5 1 (sl q) q.2.2.length (cb q.2.2) := by
  obtain ⟨L, h1, h2⟩ := h.ls
  obtain ⟨p1, p2, p3, p4, p5⟩ := hpk j x hx
  have hxm := List.mem_of_getElem? hx
  have hjl := (List.getElem?_eq_some_iff.1 p5).1
  refine (h1.recv x (by rw [p1]; omega) (by rw [p3]; omega) (by rw [p4]; omega) (h.pks.data x hxm) (hsm x hxm) (by have := h2.num; omega) (by have := h2.num; omega)).mono ?_
  rintro e W' ⟨hf, E, c, ps, F, m, c', ys, L', rfl, hr, hl, ho, hps⟩
  obtain ⟨q1, q2⟩ := h2.rec_ hD p5 p1 p2 p3 p4 hr
  refine ⟨E, c, ps, F, m, c', rfl, ⟨⟨L', hl, q1⟩, own_fr h.got hf fun k hk e => e.2.1 (.inl hk), fun q hq => own_ob (h.parts q hq) hf, ⟨own_fr h.pks.own hf fun k hk e => e.2.1 (.inr (.inl hk)), fun y hy => own_ob (h.pks.data y hy) hf⟩, own_fr h.sent hf fun k hk e => e.2.1 (.inr (.inr hk)), h.apart⟩, fun hK => q2 (h2.all hK).1, ho, hps⟩
/-- what it brought is put behind what was got. -/
theorem AgAll.app {ps : List Prt} {G' : Option Addr} {c' : Nat} (ho : W'.ownsRow w.heap.size 30 1 (.slice G' (gs.length + ps.length) c') (gs.length + ps.length) (gs.map sl ++ ps.map sl)) (hg : W.grownBy W' (Value.slice G gs.length cG).ownBlock)
    (hb : (Value.slice G' (gs.length + ps.length) c').ownBlock = (Value.slice G gs.length cG).ownBlock ∨ (Value.slice G' (gs.length + ps.length) c').ownBlock = some W.heap.size) (hps : ∀ q ∈ ps, W.ownsRow 0 5 1 (sl q) q.2.2.length (cb q.2.2)) :
    AgAll w W' gb D K t gv G' c' (gs ++ ps) B cB xs A cA ds := by
  obtain ⟨L, h1, h2⟩ := h.ls
  have hfg := Fr.ofGrown hg
  have hlen : (gs ++ ps).length = gs.length + ps.length := List.length_append
  have hw : Fr NoBlk w W' := h1.fr.step hfg fun k hk e => by have := (own_blk h.got e.symm).1; omega
  have hcase : ∀ k, Kr G' (gs ++ ps).length c' k → Kr G gs.length cG k ∨ k = W.heap.size := fun k hk => by
    unfold Kr at hk
    rw [hlen] at hk
    rcases hb with e | e
    · rw [e] at hk
      exact .inl hk
    · rw [e] at hk
      injection hk with hk
      exact .inr hk.symm
  have hbyt : ∀ {base n : Nat} {v : Value} {zs : List Value}, W.ownsRow base 5 1 v n zs → W'.ownsRow base 5 1 v n zs := fun hz => own_fr hz hfg fun k hk e => own_ne h.got hz (by decide) hk e.symm
  refine ⟨⟨L, ⟨?_, fun k hk => ?_, hw⟩, h2⟩, by rw [hlen, List.map_append]; exact ho, fun q hq => ?_, ⟨own_fr h.pks.own hfg fun k hk e => own_ne h.got h.pks.own (by decide) hk e.symm, fun y hy => hbyt (h.pks.data y hy)⟩, own_fr h.sent hfg fun k hk e => h.apart k e.symm hk, fun k hk e => ?_⟩
  · obtain ⟨O, h3, h4⟩ := h1.ex
    refine ⟨O, h3.fr hfg fun k hk e => (h4 k hk).2 (.inl e.symm), fun k hk => ⟨(h4 k hk).1, fun e => ?_⟩⟩
    rcases e with e | e
    · rcases hcase k e with e | e
      · exact (h4 k hk).2 (.inl e)
      · have := h3.ol k hk; omega
    · exact (h4 k hk).2 (.inr e)
  · rcases hk with hk | hk
    · unfold Kr at hk
      rw [hlen] at hk
      exact (own_blk ho hk).2
    · exact Nat.lt_of_lt_of_le (h1.le k (.inr hk)) hfg.size
  · rcases List.mem_append.1 hq with hq | hq
    · exact hbyt (h.parts q hq)
    · exact hbyt (hps q hq)
  · rcases hcase k hk with hk | hk
    · exact h.apart k hk e
    · have := (own_blk h.sent e).2
      omega
end
end Go.Proofs.Ytchlafhmoncldaa
