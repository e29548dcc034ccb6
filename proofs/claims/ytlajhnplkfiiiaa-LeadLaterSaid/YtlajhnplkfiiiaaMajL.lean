/- Voters in a list, each in blocks of its own; how many of them. No condition. -/
import Derived.Test.YtlajhnplkfiiiaaPrT
import Derived.Test.YtlajhnplkfiiiaaLeWS
namespace Go.Proofs.Ytlajhnplkfiiiaa
open Go.RowKit Go.Shelf

theorem wpList_appO {P : Program} {w : World} {ops : Array Oper} {rest : List Oper} {o : Oper} {a : Act} {Q : Exit → Act → World → Prop} (hgd : o.guard = none) (s x : Operand) (t : TypeId)
    (ho : o.op = .call { callee := .builtin .append, args := #[s, x], argTypes := #[t, t] })
    (base : Nat) (e : TypeId) (i : TypeInfo) (z : Value) (size bytes : Nat) (ht : P.underlying t = some (.slice e)) (hi : P.info? e = some i) (hz : i.zero = some z)
    (hsize : i.size = size) (hby : i.bytes = bytes) (hzs : z.cells.size = size) (hpos : 0 < size)
    (v : Value) (n : Nat) (xs : List Value) (hs : a.eval s = v) (hown : w.ownsRow base e size v n xs)
    (ad : Addr) (c m : Nat) (news : List Value) (hx : a.eval x = .slice (some ad) m c) (hm : news.length = m * size) (hr : Rd w (some ad) news) (h1 : ∀ u ∈ news, u.oneCell' = true)
    (h63 : n + m ≤ maxLen) (hbytes : (n + m) * bytes ≤ 140737488355328) (hbase : base ≤ w.heap.size)
    (h : ∀ v' w', w'.ownsRow base e size v' (n + m) (xs ++ news) → w.grownBy w' v.ownBlock → (v'.ownBlock = v.ownBlock ∨ v'.ownBlock = some w.heap.size) →
      wpList P ops Q rest (a.put o.dst v') w') : wpList P ops Q (o :: rest) a w :=
  wpList_plain hgd fun K hK => by
    obtain ⟨v', w', hrun, h2, h3, _, h5⟩ := run_append_own_at (P := P) w base t o.type e i z size bytes ht hi hz hsize hby hzs hpos v n xs hown ad m c news hm
      (fun j u hu => by
        obtain ⟨b, o, e', hc⟩ := hr (by have := (List.getElem?_eq_some_iff.1 hu).1; omega)
        injection e' with e'
        subst e'
        have := hc j u hu
        unfold Addr.add
        split
        · subst j; simpa using this
        · exact this) h1 h63 hbytes hbase
    unfold Oper.wp execOp
    simp only [ho, resolve, invoke, builtin, Sem.run_bind, Sem.run_pure, Result.andThen_ok, List.map_toArray, List.map_cons, List.map_nil, hs, hx, hrun]
    exact hK _ _ (h v' w' h2 h3 h5)

theorem own_blk {w : World} {base : Nat} {e : TypeId} {size n : Nat} {v : Value} {xs : List Value} (h : w.ownsRow base e size v n xs) {k : Nat} (hk : v.ownBlock = some k) : base ≤ k ∧ k < w.heap.size := by
  rcases h.2 with ⟨h1, _⟩ | ⟨g, cap, cur, h1, h2, hh, _⟩
  · rw [h1] at hk; cases hk
  · rw [h1] at hk
    have : g = k := by simpa [Value.ownBlock] using hk
    subst this
    exact ⟨h2, (Array.getElem?_eq_some_iff.1 hh).1⟩
/-- how the cells of a list that is the call's own are read. -/
theorem own_cells {w : World} {base : Nat} {e : TypeId} {size n : Nat} {v : Value} {xs : List Value} (h : w.ownsRow base e size v n xs) : Rd w (match v with | .slice A _ _ => A | _ => none) xs ∧ ∀ u, xs[0]? = some u → ∃ b c, v = .slice (some ⟨b, 0, none⟩) n c ∧ ∀ j u, xs[j]? = some u → w.cell? ⟨b, j, none⟩ = some u := by
  rcases h.2 with ⟨hv, rfl⟩ | ⟨g, cap, cur, rfl, _, hh, hnc, hsz, hcs, htake⟩
  · have h1 := h.1
    have : xs = [] := List.eq_nil_of_length_eq_zero (by simpa using h1)
    subst this
    exact ⟨fun h => absurd h (by simp), fun u hu => by cases hu⟩
  · have hall : ∀ j u, xs[j]? = some u → w.cell? ⟨g, j, none⟩ = some u := fun j u hu => by
      rw [cell_of_row _ _ _ _ _ _ hh]
      have hl := (List.getElem?_eq_some_iff.1 hu).1
      rw [← htake, List.getElem?_take] at hu
      split at hu
      · simpa using hu
      · cases hu
    exact ⟨fun _ => ⟨g, 0, rfl, fun j u hu => by rw [Nat.zero_add]; exact hall j u hu⟩, fun u _ => ⟨g, cap, rfl, hall⟩⟩
theorem ptrInfo : (Try.prog.info? 53).map (fun i => (i.zero, i.size, i.bytes)) = some (some (Value.pointer none), 1, 8) := by kernel_rfl
/-- a voter: where it lies, its tree's blocks, what it promised and took. -/
structure Vi where
  g : Nat
  gt : Nat
  O : Nat → Prop
  p : Nat
  xs : List ItT
def Vi.bl (v : Vi) : Nat → Prop := fun b => b = v.g ∨ v.O b
/-- they lie there, made since W, apart from each other and from R. -/
structure GrpIn (W w : World) (R : Nat → Prop) (vs : List Vi) : Prop where
  each : ∀ v ∈ vs, VoT w W.heap.size v.g v.gt v.O v.p v.xs
  apart : vs.Pairwise fun a b => ∀ k, a.bl k → ¬ b.bl k
  row : ∀ v ∈ vs, ∀ k, v.bl k → ¬ R k
  fr : Fr NoBlk W w
theorem VoT.lt {w : World} {B : Nat} {v : Vi} (h : VoT w B v.g v.gt v.O v.p v.xs) {k : Nat} (hk : v.bl k) : k < w.heap.size := by
  rcases hk with rfl | hk
  · exact h.bk.lt
  · exact h.tr.lt hk
theorem VoT.since {w : World} {B : Nat} {v : Vi} (h : VoT w B v.g v.gt v.O v.p v.xs) {k : Nat} (hk : v.bl k) : B ≤ k := by
  rcases hk with rfl | hk
  · exact h.ge.1
  · exact h.ge.2 k hk
section
variable {W w w' : World} {R : Nat → Prop} {vs : List Vi} (h : GrpIn W w R vs)
include h
theorem GrpIn.nofr (hf : Fr NoBlk w w') : GrpIn W w' R vs := ⟨fun v hv => (h.each v hv).nofr hf, h.apart, h.row, h.fr.trans hf⟩
/-- the row has grown. -/
theorem GrpIn.grown {R' : Nat → Prop} (hf : Fr R w w') (hw : Fr NoBlk W w') (hR : ∀ k, R' k → R k ∨ w.heap.size ≤ k) : GrpIn W w' R' vs :=
  ⟨fun v hv => (h.each v hv).fr hf (h.row v hv _ (.inl rfl)) (fun b hb => h.row v hv b (.inr hb)), h.apart, fun v hv k hk e => by
    rcases hR k e with e | e
    · exact h.row v hv k hk e
    · have := (h.each v hv).lt hk; omega, hw⟩
/-- one more, in new blocks. -/
theorem GrpIn.more {u : Vi} (hu : VoT w' w.heap.size u.g u.gt u.O u.p u.xs) (hf : Fr NoBlk w w') (hR : ∀ k, R k → k < w.heap.size) : GrpIn W w' R (vs ++ [u]) := by
  have hsz := h.fr.size
  refine ⟨fun v hv => ?_, ?_, fun v hv k hk e => ?_, h.fr.trans hf⟩
  · rcases List.mem_append.1 hv with hv | hv
    · exact (h.each v hv).nofr hf
    · rw [List.mem_singleton.1 hv]
      exact hu.low hsz
  · rw [List.pairwise_append]
    refine ⟨h.apart, List.pairwise_singleton _ _, fun a ha b hb k hk e => ?_⟩
    rw [List.mem_singleton.1 hb] at e
    have := (h.each a ha).lt hk
    have := hu.since e
    omega
  · rcases List.mem_append.1 hv with hv | hv
    · exact h.row v hv k hk e
    · rw [List.mem_singleton.1 hv] at hk
      have := hu.since hk
      have := hR k e
      omega
/-- one of them has turned. -/
theorem GrpIn.turned {i : Nat} {v u : Vi} (hv : vs[i]? = some v) (hu : VoT w' W.heap.size u.g u.gt u.O u.p u.xs) (hf : Fr v.bl w w') (hb : ∀ k, u.bl k → v.bl k ∨ w.heap.size ≤ k) (hR : ∀ k, R k → k < w.heap.size) : GrpIn W w' R (vs.set i u) := by
  have hi := (List.getElem?_eq_some_iff.1 hv).1
  have hvm := List.mem_of_getElem? hv
  have hne : ∀ j a, vs[j]? = some a → j ≠ i → ∀ k, a.bl k → ¬ v.bl k := fun j a hj hji k hk e => by
    have hp := List.pairwise_iff_getElem.1 h.apart
    have hjl := (List.getElem?_eq_some_iff.1 hj).1
    have ej := (List.getElem?_eq_some_iff.1 hj).2
    have ei := (List.getElem?_eq_some_iff.1 hv).2
    rcases Nat.lt_or_ge j i with hlt | hge
    · exact hp j i hjl hi hlt k (by rw [ej]; exact hk) (by rw [ei]; exact e)
    · exact hp i j hi hjl (by omega) k (by rw [ei]; exact e) (by rw [ej]; exact hk)
  have hget : ∀ j a, (vs.set i u)[j]? = some a → (j = i ∧ a = u) ∨ (j ≠ i ∧ vs[j]? = some a) := fun j a hj => by
    by_cases e : j = i
    · subst e
      rw [List.getElem?_set_self hi] at hj
      injection hj with hj
      exact .inl ⟨rfl, hj.symm⟩
    · rw [List.getElem?_set_ne (fun x => e x.symm)] at hj
      exact .inr ⟨e, hj⟩
  refine ⟨fun a ha => ?_, List.pairwise_iff_getElem.2 fun j l hj hl hjl k hk e => ?_, fun a ha k hk e => ?_, h.fr.step hf fun k hk e => by have := (h.each v hvm).since e; omega⟩
  · obtain ⟨j, hj⟩ := List.getElem?_of_mem ha
    rcases hget j a hj with ⟨_, rfl⟩ | ⟨hji, hj⟩
    · exact hu
    · exact (h.each a (List.mem_of_getElem? hj)).fr hf (hne j a hj hji _ (.inl rfl)) (fun b hb => hne j a hj hji b (.inr hb))
  · have e1 := hget j _ (List.getElem?_eq_getElem hj)
    have e2 := hget l _ (List.getElem?_eq_getElem hl)
    rcases e1 with ⟨rfl, e1⟩ | ⟨n1, e1⟩ <;> rcases e2 with ⟨rfl, e2⟩ | ⟨n2, e2⟩
    · omega
    · rw [e1] at hk
      have hlt := (h.each _ (List.mem_of_getElem? e2)).lt e
      rcases hb k hk with hk | hk
      · exact hne l _ e2 n2 k e hk
      · omega
    · rw [e2] at e
      have hlt := (h.each _ (List.mem_of_getElem? e1)).lt hk
      rcases hb k e with e | e
      · exact hne j _ e1 n1 k hk e
      · omega
    · have hp := List.pairwise_iff_getElem.1 h.apart
      have l1 := (List.getElem?_eq_some_iff.1 e1).1
      have l2 := (List.getElem?_eq_some_iff.1 e2).1
      have g1 := (List.getElem?_eq_some_iff.1 e1).2
      have g2 := (List.getElem?_eq_some_iff.1 e2).2
      exact hp j l l1 l2 hjl k (by rw [g1]; exact hk) (by rw [g2]; exact e)
  · obtain ⟨j, hj⟩ := List.getElem?_of_mem ha
    rcases hget j a hj with ⟨_, rfl⟩ | ⟨hji, hj⟩
    · rcases hb k hk with hk | hk
      · exact h.row v hvm k hk e
      · have := hR k e; omega
    · exact h.row a (List.mem_of_getElem? hj) k hk e
end
theorem GrpIn.nil {W w : World} (R : Nat → Prop) (hf : Fr NoBlk W w) : GrpIn W w R [] := ⟨fun _ h => (by cases h), List.Pairwise.nil, fun _ h => (by cases h), hf⟩
/-- how many below n. -/
def cnt (f : Nat → Bool) : Nat → Nat
  | 0 => 0
  | n + 1 => cnt f n + if f n then 1 else 0
theorem cnt_le (f : Nat → Bool) (n : Nat) : cnt f n ≤ n := by
  induction n with
  | zero => exact Nat.le_refl _
  | succ n ih => unfold cnt; split <;> omega
def both (f g : Nat → Bool) : Nat → Bool := fun i => f i && g i
theorem cnt_both (f g : Nat → Bool) (n : Nat) : cnt f n + cnt g n ≤ n + cnt (both f g) n := by
  induction n with
  | zero => exact Nat.le_refl _
  | succ n ih =>
    unfold cnt
    have e : both f g n = (f n && g n) := rfl
    rw [e]
    cases f n <;> cases g n <;> simp <;> omega
theorem cnt_pos {f : Nat → Bool} {n : Nat} (h : 0 < cnt f n) : ∃ i, i < n ∧ f i = true := by
  induction n with
  | zero => cases h
  | succ n ih =>
    unfold cnt at h
    by_cases hf : f n = true
    · exact ⟨n, by omega, hf⟩
    · rw [if_neg hf] at h
      obtain ⟨i, hi, e⟩ := ih (by omega)
      exact ⟨i, by omega, e⟩
/-- two majorities meet. -/
theorem meet_ (f g : Nat → Bool) (n : Nat) : 2 * cnt f n ≤ n ∨ 2 * cnt g n ≤ n ∨ ∃ i, i < n ∧ f i = true ∧ g i = true := by
  by_cases h1 : 2 * cnt f n ≤ n
  · exact .inl h1
  by_cases h2 : 2 * cnt g n ≤ n
  · exact .inr (.inl h2)
  have h3 := cnt_both f g n
  obtain ⟨i, hi, e⟩ := cnt_pos (f := both f g) (n := n) (by omega)
  unfold both at e
  rw [Bool.and_eq_true] at e
  exact .inr (.inr ⟨i, hi, e.1, e.2⟩)
end Go.Proofs.Ytlajhnplkfiiiaa
