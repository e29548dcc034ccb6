/- The program's net and the document's, side by side, beside the law's own blocks. Conditions: at most 1000000 bytes of data. -/
import Derived.Test.YtdfmoijomnjdiaaRt
namespace Go.Proofs.Ytdfmoijomnjdiaa
open Go.RowKit

/-- both, in blocks made since w, none of them in E; the one holds vs, the other us. -/
structure Pl (w W : World) (E : Nat → Prop) (g m : Nat) (vs us : List Vl) : Prop where
  ex : ∃ (R : Nat → Prop) (a : Option Addr) (c : Nat) (qs : List Pc), NK w W (fun k => R k ∨ E k) g vs ∧ RtIn R w W m a c qs ∧ qs.map pvl = us ∧ ∀ k, R k → w.heap.size ≤ k ∧ ¬ E k
  le : ∀ k, E k → k < W.heap.size
theorem Pl.fr {w W : World} {E : Nat → Prop} {g m : Nat} {vs us : List Vl} (h : Pl w W E g m vs us) : Fr NoBlk w W := by
  obtain ⟨R, a, c, qs, _, h2, _⟩ := h.ex
  exact h2.fr
section
variable {w W W' : World} {E : Nat → Prop} {g m : Nat} {vs us : List Vl} (h : Pl w W E g m vs us)
include h
theorem Pl.far (hf : Fr E W W') (hw : Fr NoBlk w W') : Pl w W' E g m vs us := by
  obtain ⟨R, a, c, qs, h1, h2, h3, h4⟩ := h.ex
  exact ⟨⟨R, a, c, qs, h1.far (hf.mono fun _ _ e => .inr e), h2.fr' hf (fun k hk => (h4 k hk).2) hw, h3, h4⟩, fun k hk => Nat.lt_of_lt_of_le (h.le k hk) hf.size⟩
theorem Pl.nofr (hf : Fr NoBlk W W') : Pl w W' E g m vs us := h.far (hf.mono fun _ _ e => e.elim) (h.fr.trans hf)
theorem Pl.sub {E' : Nat → Prop} (hE : ∀ k, E' k → E k ∨ W.heap.size ≤ k) (hl : Fr NoBlk W W') (hle : ∀ k, E' k → k < W'.heap.size) : Pl w W' E' g m vs us := by
  obtain ⟨R, a, c, qs, h1, h2, h3, h4⟩ := h.ex
  exact ⟨⟨R, a, c, qs, (h1.sub (S' := fun k => R k ∨ E' k) fun k hk => by
    rcases hk with hk | hk
    · exact .inl (.inl hk)
    · exact (hE k hk).imp .inr id).nofr hl, h2.nofr hl, h3, fun k hk => ⟨(h4 k hk).1, fun e => by
      rcases hE k e with e | e
      · exact (h4 k hk).2 e
      · have := h2.ol k hk; omega⟩⟩, hle⟩
theorem pl_len : Calls Try.prog 16 #[.pointer (some ⟨g, 0, none⟩)] W fun e W' => e = .returned (.int .i64 (vs.length : Int)) ∧ W = W' := by
  obtain ⟨R, a, c, qs, h1, h2, h3, h4⟩ := h.ex
  exact nk_len h1
/-- a call on the program's net. -/
theorem Pl.a_ {R : Nat → Prop} {a : Option Addr} {c : Nat} {qs : List Pc} (h2 : RtIn R w W m a c qs) (h3 : qs.map pvl = us) (h4 : ∀ k, R k → w.heap.size ≤ k ∧ ¬ E k) {vs' : List Vl} (hf : Fr (Out w fun k => R k ∨ E k) W W') (hn : NK w W' (fun k => R k ∨ E k) g vs') :
    Pl w W' E g m vs' us ∧ Fr (Out w E) W W' :=
  ⟨⟨⟨R, a, c, qs, hn, h2.fr' hf (fun _k hk e => e.2 (.inl hk)) (Out.none_ h.fr hf), h3, h4⟩, fun k hk => Nat.lt_of_lt_of_le (h.le k hk) hf.size⟩, hf.mono fun _k _ e => ⟨e.1, fun e2 => e.2 (.inr e2)⟩⟩
theorem Pl.m_ : ¬ E m ∧ w.heap.size ≤ m ∧ m < W.heap.size := by
  obtain ⟨R, a, c, qs, h1, h2, h3, h4⟩ := h.ex
  exact ⟨(h4 m h2.om).2, (h4 m h2.om).1, h2.ol m h2.om⟩
/-- bytes stay as they are when the document's net turns. -/
theorem Pl.bytes (hf : Fr (fun k => k = m) W W') (A : Option Addr) (l : List UInt8) (hr : Rd W A (cb l)) : Rd W' A (cb l) := by
  obtain ⟨R, a, c, qs, h1, h2, h3, h4⟩ := h.ex
  refine hr.fr' hf fun hp k hk e => ?_
  obtain ⟨b, o, rfl, hc⟩ := hr hp
  obtain ⟨ad, ha, rfl⟩ := hk
  injection ha with ha
  subst ha
  have h0 := hc 0 _ (List.getElem?_eq_getElem hp)
  simp only at e
  subst e
  rw [h2.bk.cell] at h0
  rw [cb_length] at hp
  match o with
  | 0 => simp [cb] at h0
  | o + 1 => simp at h0
theorem Pl.list : ∃ (a : Option Addr) (c : Nat) (qs : List Pc), qs.map pvl = us ∧ (∀ q ∈ qs, PcIn w q) ∧ ∀ w', Fr NoBlk W w' → w'.cell? ⟨m, 0, none⟩ = some (.slice a us.length c) ∧ Rd w' a (pcsc qs) := by
  obtain ⟨R, a, c, qs, h1, h2, h3, h4⟩ := h.ex
  refine ⟨a, c, qs, h3, h2.data, fun w' hf => ?_⟩
  have h5 := h2.nofr hf
  exact ⟨by rw [← h3, List.length_map]; exact h5.bk.cell 0, Rd.of_ownN h5.own⟩
theorem pl_take (k : Int) : Calls Try.prog 8 #[.pointer (some ⟨g, 0, none⟩), .int .i64 k] W fun e W' => Fr (Out w E) W W' ∧
    ((hasB vs.length k = true ∧ ∃ p, vs[k.toNat]? = some (pvl p) ∧ e = .returned (.tuple #[.agg #[.int .i64 p.src, .int .i64 p.dst, .int .u64 p.ep, .int .u64 p.pe, .int .u64 p.sq, .int .u64 p.ak, .slice p.d.1 p.d.2.2.length p.d.2.1], .bool true]) ∧ Rd W' p.d.1 (cb p.d.2.2) ∧ Pl w W' E g m (vs.eraseIdx k.toNat) us) ∨
      (hasB vs.length k = false ∧ e = .returned (.tuple #[.agg #[.int .i64 0, .int .i64 0, .int .u64 0, .int .u64 0, .int .u64 0, .int .u64 0, .slice none 0 0], .bool false]) ∧ Pl w W' E g m vs us)) := by
  obtain ⟨R, a, c, qs, h1, h2, h3, h4⟩ := h.ex
  refine (nk_take h1 k).mono ?_
  rintro e W' ⟨hf, ⟨hb, p, hp, he, hr, hn⟩ | ⟨hb, he, hn⟩⟩
  · obtain ⟨q1, q2⟩ := h.a_ h2 h3 h4 hf hn
    exact ⟨q2, .inl ⟨hb, p, hp, he, hr, q1⟩⟩
  · obtain ⟨q1, q2⟩ := h.a_ h2 h3 h4 hf hn
    exact ⟨q2, .inr ⟨hb, he, q1⟩⟩
theorem pl_drop (k : Int) : Calls Try.prog 11 #[.pointer (some ⟨g, 0, none⟩), .int .i64 k] W fun e W' =>
    e = .returned (.bool (hasB vs.length k)) ∧ Fr (Out w E) W W' ∧ Pl w W' E g m (if hasB vs.length k = true then vs.eraseIdx k.toNat else vs) us := by
  obtain ⟨R, a, c, qs, h1, h2, h3, h4⟩ := h.ex
  refine (nk_drop h1 k).mono ?_
  rintro e W' ⟨he, hf, hn⟩
  obtain ⟨q1, q2⟩ := h.a_ h2 h3 h4 hf hn
  exact ⟨he, q2, q1⟩
theorem pl_send (p : Pc) (hr : Rd W p.d.1 (cb p.d.2.2)) (hA : p.d.1 = none → p.d.2.1 = 0) (hd : p.d.2.2.length ≤ 1000000) :
    Calls Try.prog 15 #[.pointer (some ⟨g, 0, none⟩), .agg #[.int .i64 p.src, .int .i64 p.dst, .int .u64 p.ep, .int .u64 p.pe, .int .u64 p.sq, .int .u64 p.ak, .slice p.d.1 p.d.2.2.length p.d.2.1]] W fun e W' =>
      Fr (Out w E) W W' ∧ ((4000 ≤ vs.length ∧ e = .returned (.int .i64 2) ∧ Pl w W' E g m vs us) ∨ (vs.length < 4000 ∧ e = .returned (.int .i64 0) ∧ Pl w W' E g m (vs ++ [pvl p]) us)) := by
  obtain ⟨R, a, c, qs, h1, h2, h3, h4⟩ := h.ex
  refine (nk_send h1 h.fr (fun k hk => hk.elim (h2.ol k) (h.le k)) p hr hA hd).mono ?_
  rintro e W' ⟨hf, ⟨hb, he, hn⟩ | ⟨hb, he, hn⟩⟩
  · obtain ⟨q1, q2⟩ := h.a_ h2 h3 h4 hf hn
    exact ⟨q2, .inl ⟨hb, he, q1⟩⟩
  · obtain ⟨q1, q2⟩ := h.a_ h2 h3 h4 hf hn
    exact ⟨q2, .inr ⟨hb, he, q1⟩⟩
theorem pl_copy (k : Int) : Calls Try.prog 14 #[.pointer (some ⟨g, 0, none⟩), .int .i64 k] W fun e W' =>
    Fr (Out w E) W W' ∧ ((hasB vs.length k = true ∧ vs.length < 4000 ∧ e = .returned (.bool true) ∧ ∃ v, vs[k.toNat]? = some v ∧ Pl w W' E g m (vs ++ [v]) us) ∨ (¬ (hasB vs.length k = true ∧ vs.length < 4000) ∧ e = .returned (.bool false) ∧ Pl w W' E g m vs us)) := by
  obtain ⟨R, a, c, qs, h1, h2, h3, h4⟩ := h.ex
  refine (nk_copy h1 h.fr (fun k hk => hk.elim (h2.ol k) (h.le k)) k).mono ?_
  rintro e W' ⟨hf, ⟨hb, hb2, he, v, hv, hn⟩ | ⟨hb, he, hn⟩⟩
  · obtain ⟨q1, q2⟩ := h.a_ h2 h3 h4 hf hn
    exact ⟨q2, .inl ⟨hb, hb2, he, v, hv, q1⟩⟩
  · obtain ⟨q1, q2⟩ := h.a_ h2 h3 h4 hf hn
    exact ⟨q2, .inr ⟨hb, he, q1⟩⟩
/-- a call on the document's net. -/
theorem Pl.b_ {R : Nat → Prop} (h1 : NK w W (fun k => R k ∨ E k) g vs) (h4 : ∀ k, R k → w.heap.size ≤ k ∧ ¬ E k) (hm : R m) {a : Option Addr} {c : Nat} {qs : List Pc} {us' : List Vl} (hf : Fr (fun k => k = m) W W') (hr : RtIn (Plus R W W') w W' m a c qs) (hq : qs.map pvl = us') :
    Pl w W' E g m vs us' := by
  have hsz := h.fr.size
  refine ⟨⟨Plus R W W', a, c, qs, (h1.sub (S' := fun k => Plus R W W' k ∨ E k) ?_).far (hf.mono fun k _ e => .inl (.inl (by rw [e]; exact hm))), hr, hq, fun k hk => ?_⟩, fun k hk => Nat.lt_of_lt_of_le (h.le k hk) hf.size⟩
  · rintro k ((hk | hk) | hk)
    · exact .inl (.inl hk)
    · exact .inr hk.1
    · exact .inl (.inr hk)
  · rcases hk with hk | hk
    · exact h4 k hk
    · exact ⟨by omega, fun e => by have := h.le k e; omega⟩
theorem pr_has (k : Int) : Calls Try.prog 12 #[.pointer (some ⟨m, 0, none⟩), .int .i64 k] W fun e W' => e = .returned (.bool (hasB us.length k)) ∧ W = W' := by
  obtain ⟨R, a, c, qs, h1, h2, h3, h4⟩ := h.ex
  have hl : us.length = qs.length := by rw [← h3, List.length_map]
  rw [hl]
  exact rhas_any W w R m a c qs h2 k
theorem pr_send (p : Pc) (hp : PcIn w p) : Calls Try.prog 13 #[.pointer (some ⟨m, 0, none⟩), .agg #[.int .i64 p.src, .int .i64 p.dst, .int .u64 p.ep, .int .u64 p.pe, .int .u64 p.sq, .int .u64 p.ak, .slice p.d.1 p.d.2.2.length p.d.2.1]] W fun e W' =>
    Fr (fun k => k = m) W W' ∧ ((4000 ≤ us.length ∧ e = .returned (.bool false) ∧ Pl w W' E g m vs us) ∨ (us.length < 4000 ∧ e = .returned (.bool true) ∧ Pl w W' E g m vs (us ++ [pvl p]))) := by
  obtain ⟨R, a, c, qs, h1, h2, h3, h4⟩ := h.ex
  have hl : us.length = qs.length := by rw [← h3, List.length_map]
  refine (rsend_any w W R m a c qs h2 h.m_.2.1 p hp).mono ?_
  intro e W' hp'
  unfold RSendPost at hp'
  by_cases hb : 4000 ≤ qs.length
  · rw [if_pos hb] at hp'
    exact ⟨hp'.2.mono fun _ _ e => e.elim, .inl ⟨by omega, hp'.1, h.nofr hp'.2⟩⟩
  · rw [if_neg hb] at hp'
    obtain ⟨rfl, hf, A, c1, hn⟩ := hp'
    exact ⟨hf, .inr ⟨by omega, rfl, h.b_ h1 h4 h2.om hf hn (by rw [List.map_append, h3]; rfl)⟩⟩
theorem pr_take (k : Int) : Calls Try.prog 9 #[.pointer (some ⟨m, 0, none⟩), .int .i64 k] W fun e W' =>
    Fr (fun k => k = m) W W' ∧ ((hasB us.length k = true ∧ ∃ q, us[k.toNat]? = some (pvl q) ∧ e = .returned (.tuple #[.agg #[.int .i64 q.src, .int .i64 q.dst, .int .u64 q.ep, .int .u64 q.pe, .int .u64 q.sq, .int .u64 q.ak, .slice q.d.1 q.d.2.2.length q.d.2.1], .bool true]) ∧ PcIn w q ∧ Pl w W' E g m vs (us.eraseIdx k.toNat)) ∨
      (hasB us.length k = false ∧ e = .returned (.tuple #[.agg #[.int .i64 0, .int .i64 0, .int .u64 0, .int .u64 0, .int .u64 0, .int .u64 0, .slice none 0 0], .bool false]) ∧ Pl w W' E g m vs us)) := by
  obtain ⟨R, a, c, qs, h1, h2, h3, h4⟩ := h.ex
  have hl : us.length = qs.length := by rw [← h3, List.length_map]
  rw [hl]
  refine (rtake_any w W R m a c qs h2 h.m_.2.1 k).mono ?_
  intro e W' hp'
  unfold RTakePost at hp'
  by_cases hb : hasB qs.length k = true
  · rw [if_pos hb] at hp'
    obtain ⟨p, A, c1, hp, rfl, hf, hn⟩ := hp'
    exact ⟨hf, .inl ⟨hb, p, by rw [← h3, List.getElem?_map, hp]; rfl, rfl, h2.data p (List.mem_of_getElem? hp), h.b_ h1 h4 h2.om hf hn (by rw [← h3, map_erase])⟩⟩
  · rw [if_neg hb] at hp'
    exact ⟨hp'.2.mono fun _ _ e => e.elim, .inr ⟨by simpa using hb, hp'.1, h.nofr hp'.2⟩⟩
end
end Go.Proofs.Ytdfmoijomnjdiaa
