/- A link and the document's beside a law's own rows: each call. Conditions: few data, small ones. -/
import Derived.Test.YtchlafhmoncldaaAgM
import Derived.Test.YtchlafhmoncldaaRr
import Derived.Test.YtchlafhmoncldaaPlP
namespace Go.Proofs.Ytchlafhmoncldaa
open Go.RowKit Go.Maps Go.ChangeMaps Go.MapKept Go.WideShapes

/-- both, in blocks made since w that are none of S. -/
structure PlS (w W : World) (S : Nat → Prop) (g m : Nat) (L : Lk) (R : Rk) : Prop where
  ex : ∃ O M, LkIn O W g L ∧ RkIn M W m R ∧ (∀ k, O k → w.heap.size ≤ k ∧ ¬ S k ∧ ¬ M k ∧ k ≠ m) ∧ ∀ k, M k ∨ k = m → w.heap.size ≤ k ∧ ¬ S k
  le : ∀ k, S k → k < W.heap.size
  fr : Fr NoBlk w W
section
variable {w W W' : World} {S : Nat → Prop} {g m : Nat} {L : Lk} {R : Rk} (h : PlS w W S g m L R)
include h
theorem PlS.far (hf : Fr S W W') (hw : Fr NoBlk w W') : PlS w W' S g m L R := by
  obtain ⟨O, M, h1, h2, h3, h4⟩ := h.ex
  exact ⟨⟨O, M, h1.fr hf fun k hk => (h3 k hk).2.1, h2.fr hf fun k hk => (h4 k hk).2, h3, h4⟩, fun k hk => Nat.lt_of_lt_of_le (h.le k hk) hf.size, hw⟩
theorem PlS.nofr (hf : Fr NoBlk W W') : PlS w W' S g m L R := h.far (hf.mono fun _ _ e => e.elim) (h.fr.trans hf)
theorem PlS.sub {S' : Nat → Prop} (hS : ∀ k, S' k → S k ∨ W.heap.size ≤ k) (hf : Fr NoBlk W W') (hl : ∀ k, S' k → k < W'.heap.size) : PlS w W' S' g m L R := by
  obtain ⟨O, M, h1, h2, h3, h4⟩ := h.ex
  refine ⟨⟨O, M, h1.nofr hf, h2.nofr hf, fun k hk => ⟨(h3 k hk).1, fun e => ?_, (h3 k hk).2.2⟩, fun k hk => ⟨(h4 k hk).1, fun e => ?_⟩⟩, hl, h.fr.trans hf⟩
  · rcases hS k e with e | e
    · exact (h3 k hk).2.1 e
    · have := h1.ol k hk; omega
  · rcases hS k e with e | e
    · exact (h4 k hk).2 e
    · rcases hk with hk | rfl
      · have := h2.ml k hk; omega
      · have := h2.bk.lt; omega
/-- what was made later may be turned. -/
theorem PlS.past (hf : Fr (fun k => W.heap.size ≤ k) W W') : PlS w W' (fun _ => False) g m L R := by
  obtain ⟨O, M, h1, h2, h3, h4⟩ := h.ex
  refine ⟨⟨O, M, h1.fr hf fun k hk e => ?_, h2.fr hf fun k hk e => ?_, fun k hk => ⟨(h3 k hk).1, (fun e => e), (h3 k hk).2.2⟩, fun k hk => ⟨(h4 k hk).1, fun e => e⟩⟩, fun _ e => e.elim, h.fr.step hf fun k hk e => ?_⟩
  · have := h1.ol k hk; omega
  · rcases hk with hk | rfl
    · have := h2.ml k hk; omega
    · have := h2.bk.lt; omega
  · have := h.fr.size; omega
theorem PlS.few : L.sent.length ≤ 16 ∧ R.outs.length ≤ 16 ∧ L.epoch < 2 ^ 64 ∧ L.expects < 2 ^ 64 := by
  obtain ⟨_, _, h1, h2, _, _⟩ := h.ex
  exact ⟨h1.few, h2.few.1, h1.nums.1, h1.nums.2.2.2⟩
theorem PlS.grow {O' M : Nat → Prop} {O : Nat → Prop} {L' : Lk} (h2 : RkIn M W m R) (h3 : ∀ k, O k → w.heap.size ≤ k ∧ ¬ S k ∧ ¬ M k ∧ k ≠ m) (h4 : ∀ k, M k ∨ k = m → w.heap.size ≤ k ∧ ¬ S k) (hl : LkIn O' W' g L') (hO : ∀ k, O' k → O k ∨ W.heap.size ≤ k) (hf : Fr (St O W) W W') : PlS w W' S g m L' R ∧ Fr (OutB w W S) W W' := by
  have hle := h.le
  have hfr := h.fr
  clear h
  have ho : Fr (OutB w W S) W W' := hf.mono fun k _ e => ⟨(h3 k e.1).1, (h3 k e.1).2.1, e.2⟩
  refine ⟨⟨⟨O', M, hl, h2.fr hf fun k hk e => ?_, fun k hk => ?_, h4⟩, fun k hk => Nat.lt_of_lt_of_le (hle k hk) hf.size, OutL.none_ hfr (OutB.out ho)⟩, ho⟩
  · rcases hk with hk | hk
    · exact (h3 k e.1).2.2.1 hk
    · exact (h3 k e.1).2.2.2 hk
  · rcases hO k hk with hk | hk
    · exact h3 k hk
    · refine ⟨by have := hfr.size; omega, fun e => by have := hle k e; omega, fun e => by have := h2.ml k e; omega, fun e => by have := h2.bk.lt; omega⟩
theorem PlS.rgrow {O M M' : Nat → Prop} {R' : Rk} (h1 : LkIn O W g L) (h3 : ∀ k, O k → w.heap.size ≤ k ∧ ¬ S k ∧ ¬ M k ∧ k ≠ m) (h4 : ∀ k, M k ∨ k = m → w.heap.size ≤ k ∧ ¬ S k) (hr : RkIn M' W' m R') (hM : ∀ k, M' k → M k ∨ W.heap.size ≤ k) (hf : Fr (fun k => k = m) W W') : PlS w W' S g m L R' := by
  have hle := h.le
  have hfr := h.fr
  clear h
  refine ⟨⟨O, M', h1.fr hf fun k hk e => (h3 k hk).2.2.2 e, hr, fun k hk => ⟨(h3 k hk).1, (h3 k hk).2.1, fun e => ?_, (h3 k hk).2.2.2⟩, fun k hk => ?_⟩, fun k hk => Nat.lt_of_lt_of_le (hle k hk) hf.size, hfr.step hf fun k hk e => by have := (h4 k (.inr e)).1; omega⟩
  · rcases hM k e with e | e
    · exact (h3 k hk).2.2.1 e
    · have := h1.ol k hk; omega
  · rcases hk with hk | hk
    · rcases hM k hk with hk | hk
      · exact h4 k (.inl hk)
      · exact ⟨by have := hfr.size; omega, fun e => by have := hle k e; omega⟩
    · exact h4 k (.inr hk)
theorem PlS.send (A : Option Addr) (c : Nat) (d : Bs) (hr : Rd W A (cb d)) (hA : A = none → c = 0) (hd : d.length ≤ 1000000) :
    Calls Try.prog 12 #[.pointer (some ⟨g, 0, none⟩), .slice A d.length c] W fun e W' => Fr (OutB w W S) W W' ∧ ∃ rc L', e = .returned (.int .i64 rc) ∧ SendD L d rc L' ∧ PlS w W' S g m L' R := by
  obtain ⟨O, M, h1, h2, h3, h4⟩ := h.ex
  refine (send_any W O g L h1 A c d hr hA hd).mono ?_
  intro e W' hs
  unfold SendPost at hs
  by_cases h16 : 16 ≤ L.sent.length
  · rw [if_pos h16] at hs
    obtain ⟨rfl, rfl⟩ := hs
    exact ⟨Fr.refl _ _, 2, L, rfl, .inl ⟨h16, rfl, rfl⟩, h⟩
  · rw [if_neg h16] at hs
    obtain ⟨rfl, hf, A', c', A2, c2, hl⟩ := hs
    obtain ⟨q1, q2⟩ := h.grow h2 h3 h4 hl (fun k hk => hk.imp id fun h => h.1) hf
    exact ⟨q2, 0, _, rfl, .inr ⟨by omega, rfl, A', c', (A2, c2, d), rfl, rfl⟩, q1⟩
theorem PlS.rsend (A : Option Addr) (c : Nat) (d : Bs) (hr : Rd W A (cb d)) (hA : A = none → c = 0) (hd : d.length ≤ 1000000) :
    Calls Try.prog 13 #[.pointer (some ⟨m, 0, none⟩), .slice A d.length c] W fun e W' => Fr (fun k => k = m) W W' ∧ ∃ rc R', e = .returned (.int .i64 rc) ∧ RSendD R d rc R' ∧ PlS w W' S g m L R' := by
  obtain ⟨O, M, h1, h2, h3, h4⟩ := h.ex
  refine (rsend_any W M m R h2 A c d hr hA hd).mono ?_
  intro e W' hs
  unfold RSendPost at hs
  by_cases h16 : 16 ≤ R.outs.length
  · rw [if_pos h16] at hs
    obtain ⟨rfl, rfl⟩ := hs
    exact ⟨Fr.refl _ _, 2, R, rfl, .inl ⟨h16, rfl, rfl⟩, h⟩
  · rw [if_neg h16] at hs
    obtain ⟨rfl, hf, A', c', p, hp, hl⟩ := hs
    exact ⟨hf, 0, _, rfl, .inr ⟨by omega, rfl, A', c', p, hp, rfl⟩, h.rgrow h1 h3 h4 hl (fun k hk => hk.imp id fun h => h.1) hf⟩
theorem PlS.recv (P : Pk) (hep : P.ep < 2 ^ 64) (hsq : P.sq < 2 ^ 64) (hak : P.ak < 2 ^ 64) {base : Nat} (hd : W.ownsRow base 5 1 (sl P.d) P.d.2.2.length (cb P.d.2.2)) (hdl : P.d.2.2.length ≤ 1000000) (hx : L.expects < 2 ^ 62) (hn : L.n ≤ 1000000) :
    Calls Try.prog 14 #[.pointer (some ⟨g, 0, none⟩), .agg (pka P)] W fun e W' => Fr (OutB w W S) W W' ∧ ∃ A c ps B c' xs L', e = .returned (.tuple #[.slice A ps.length c, .slice B xs.length c']) ∧ RecD L P ps xs L' ∧ PlS w W' S g m L' R ∧
      (∀ W'', Fr (fun k => k = m) W' W'' → RowRd W'' A ps ∧ PkRd W'' B xs) := by
  obtain ⟨O, M, h1, h2, h3, h4⟩ := h.ex
  refine (rec_any W O g L h1 P hep hsq hak (fun w' hf => Rd.of_own (own_st hd hf)) (own_lens hd).2.2 hdl hx hn).mono ?_
  rintro e W' ⟨A, c, ps, B, c', xs, O', L', rfl, hr⟩
  obtain ⟨q1, q2⟩ := h.grow h2 h3 h4 hr.lk hr.blks.2 hr.fr
  have hms := h2.bk.lt
  refine ⟨q2, A, c, ps, B, c', xs, L', rfl, hr.data, q1, fun W'' hf => ⟨⟨Rd.of_ownN (own_fr hr.own hf fun k hk e => ?_), fun q hq => Rd.of_own (own_fr (hr.parts q hq).1 hf fun k hk e => ?_), ?_⟩, ⟨Rd.of_ownN (own_fr hr.pks.own hf fun k hk e => ?_), fun q hq => Rd.of_own (own_fr (hr.pks.data q hq) hf fun k hk e => ?_), ?_⟩⟩⟩
  · have := (own_blk hr.own hk).1; omega
  · rcases hr.blks.2 k ((hr.parts q hq).2 k hk) with hk | hk
    · exact (h3 k hk).2.2.2 e
    · omega
  · have h5 := own_cap hr.own; have h6 := (own_lens hr.own).1; unfold maxLen at h5; omega
  · have := (own_blk hr.pks.own hk).1; omega
  · have := (own_blk (hr.pks.data q hq) hk).1; omega
  · have h5 := own_cap hr.pks.own; have h6 := (own_lens hr.pks.own).1; unfold maxLen at h5; omega
theorem PlS.rrecv (P : Pk) (hep : P.ep < 2 ^ 64) (hsq : P.sq < 2 ^ 64) (hak : P.ak < 2 ^ 64) (hr : Rd W P.d.1 (cb P.d.2.2)) (hA : P.d.1 = none → P.d.2.1 = 0) (hd : P.d.2.2.length ≤ 1000000) (hn : R.ers.length < 1000) (hx : R.ex < 2 ^ 63) :
    Calls Try.prog 15 #[.pointer (some ⟨m, 0, none⟩), .agg (pka P)] W fun e W' => Fr (fun k => k = m) W W' ∧ ∃ A c qs B c' ys R', e = .returned (.tuple #[.slice A qs.length c, .slice B ys.length c']) ∧ RecV (rv R) P (qs.map (·.2.2)) (ys.map pkd) (rv R') ∧ PlS w W' S g m L R' ∧ RowRd W' A qs ∧ PkRd W' B ys := by
  obtain ⟨O, M, h1, h2, h3, h4⟩ := h.ex
  refine (rrec_any W M m R h2 P hep hsq hak hr hA hd hn hx).mono ?_
  rintro e W' ⟨A, c, qs, B, c', ys, M', R', rfl, hrk, hf, hM, hqs, hys, hv⟩
  exact ⟨hf, A, c, qs, B, c', ys, R', rfl, hv, h.rgrow h1 h3 h4 hrk hM hf, hqs, hys⟩
theorem PlS.packets (hd : ∀ p ∈ L.sent, p.2.2.length ≤ 1000000) : Calls Try.prog 18 #[.pointer (some ⟨g, 0, none⟩)] W (PacketsPost W L) := by
  obtain ⟨O, M, h1, h2, h3, h4⟩ := h.ex
  exact packets_any W O g L h1 hd
theorem PlS.rpackets : Calls Try.prog 19 #[.pointer (some ⟨m, 0, none⟩)] W (RPacketsPost W R) := by
  obtain ⟨O, M, h1, h2, h3, h4⟩ := h.ex
  exact rpackets_any W M m R h2
theorem PlS.open_ : Calls Try.prog 20 #[.pointer (some ⟨g, 0, none⟩)] W fun e W' => e = .returned (.int .i64 (L.sent.length : Int)) ∧ W = W' := by
  obtain ⟨O, M, h1, h2, h3, h4⟩ := h.ex
  exact open_any W O g L h1
theorem PlS.peer : Calls Try.prog 21 #[.pointer (some ⟨g, 0, none⟩)] W fun e W' => e = .returned (.int .u64 (L.peer : Int)) ∧ W = W' := by
  obtain ⟨O, M, h1, h2, h3, h4⟩ := h.ex
  exact peer_any W O g L h1
theorem PlS.cells : W.cell? ⟨m, 1, none⟩ = some (.int .u64 (R.pe : Int)) ∧ W.cell? ⟨m, 4, none⟩ = some (.slice R.ao R.outs.length R.co) := by
  obtain ⟨O, M, h1, h2, h3, h4⟩ := h.ex
  obtain ⟨_, c1, _, _, c4, _⟩ := h2.cells
  exact ⟨c1, c4⟩
end
theorem pls_new {w W W1 W2 : World} {g gm m : Nat} {L : Lk} {R : Rk} (hw : Fr NoBlk w W1) (h1 : LkIn (fun k => k = g ∨ k = gm) W1 g L) (hg : W.heap.size ≤ g) (hgm : W.heap.size ≤ gm) (hwW : w.heap.size ≤ W.heap.size) (h2 : RkIn (fun _ => False) W2 m R) (hf : Fr NoBlk W1 W2) (hm : W1.heap.size ≤ m) : PlS w W2 (fun _ => False) g m L R := by
  refine ⟨⟨_, fun _ => False, h1.nofr hf, h2, fun k hk => ⟨?_, (fun e => e), (fun e => e), fun e => ?_⟩, fun k hk => ⟨?_, fun e => e⟩⟩, fun _ e => e.elim, hw.trans hf⟩
  · rcases hk with rfl | rfl <;> omega
  · have := h1.ol k hk; omega
  · rcases hk with hk | rfl
    · exact hk.elim
    · have := hw.size; omega
end Go.Proofs.Ytchlafhmoncldaa
