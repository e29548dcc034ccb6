/- Trees in memory: a node with some kids replaced, an item replaced, a kid parted; where a key stands. No condition. -/
import Derived.Test.YtkdcacajacndmaaP1
namespace Go.Proofs.Ytkdcacajacndmaa
open Go.RowKit
section
variable {I : Type} {κ : TK I}
theorem Tr.ok_seg {d : Nat} {w w' : World} {h h' : Hd I} {a m m' b : List (Tr I d)} {C : Nat → Prop} (o : (Tr.node h (a ++ m ++ b)).ok κ w) (hf : Fr C w w') (hC : ∀ x, C x → h.own x ∨ ∃ k ∈ m, k.own x)
    (hh : h'.lies κ w' ((a ++ m' ++ b).map Tr.g)) (hho : ∀ x, h'.own x → h.own x ∨ (∃ k ∈ m, k.own x) ∨ w.heap.size ≤ x)
    (hm : ∀ k' ∈ m', k'.ok κ w' ∧ 8 ≤ k'.n ∧ k'.n ≤ 16 ∧ (∀ x, k'.own x → (∃ k ∈ m, k.own x) ∨ h.own x ∨ w.heap.size ≤ x) ∧ Dj h'.own k'.own)
    (hp : m'.Pairwise fun k k' => Dj k.own k'.own) (hl : (a ++ m' ++ b).length = h'.xs.length + 1) :
    (Tr.node h' (a ++ m' ++ b)).ok κ w' ∧ Stp w w' (Tr.node h (a ++ m ++ b)).own (Tr.node h' (a ++ m' ++ b)).own := by
  have hka : ∀ k ∈ a, k ∈ a ++ m ++ b := fun k hk => by simp [hk]
  have hkb : ∀ k ∈ b, k ∈ a ++ m ++ b := fun k hk => by simp [hk]
  have hkm : ∀ k ∈ m, k ∈ a ++ m ++ b := fun k hk => by simp [hk]
  have hs := o.sep
  have h2 := hs.2
  rw [List.pairwise_append, List.pairwise_append] at h2
  obtain ⟨⟨pa, pm, pam⟩, pb, pab⟩ := h2
  have old : ∀ k, (k ∈ a ∨ k ∈ b) → k.ok κ w' ∧ 8 ≤ k.n ∧ k.n ≤ 16 := fun k hk => by
    have hk2 : k ∈ a ++ m ++ b := by rcases hk with h | h; exact hka k h; exact hkb k h
    refine ⟨(o.kid hk2).1.fr hf fun x hx hc => ?_, (o.kid hk2).2⟩
    rcases hC x hc with h1 | ⟨q, hq, h1⟩
    · exact (hs.1 k hk2).1 x h1 hx
    · rcases hk with hk | hk
      · exact pam k hk q hq x hx h1
      · exact pab q (List.mem_append_right _ hq) k hk x h1 hx
  refine ⟨⟨⟨hh, fun k hk => ?_⟩, sep_seg (N := w.heap.size) hs (fun k hk x hx => (o.kid (hka k hk)).1.lt hx) (fun k hk x hx => (o.kid (hkb k hk)).1.lt hx) hho (fun k' hk' => ⟨(hm k' hk').2.2.2.1, (hm k' hk').1.sep, (hm k' hk').2.2.2.2⟩) hp, hl, fun k hk => ?_⟩, ⟨hf.mono fun x _ hx => ?_, fun x hx => ?_⟩⟩
  · rcases List.mem_append.1 hk with hk | hk
    · rcases List.mem_append.1 hk with hk | hk
      · exact (old k (.inl hk)).1.lies
      · exact (hm k hk).1.lies
    · exact (old k (.inr hk)).1.lies
  · rcases List.mem_append.1 hk with hk | hk
    · rcases List.mem_append.1 hk with hk | hk
      · exact ⟨(old k (.inl hk)).1.shape, (old k (.inl hk)).2⟩
      · exact ⟨(hm k hk).1.shape, (hm k hk).2.1, (hm k hk).2.2.1⟩
    · exact ⟨(old k (.inr hk)).1.shape, (old k (.inr hk)).2⟩
  · rcases hC x hx with h1 | ⟨q, hq, h1⟩
    · exact .inl h1
    · exact .inr ⟨q, hkm q hq, h1⟩
  · rcases hx with hx | ⟨k, hk, hx⟩
    · rcases hho x hx with h1 | ⟨q, hq, h1⟩ | h1
      · exact .inl (.inl h1)
      · exact .inl (.inr ⟨q, hkm q hq, h1⟩)
      · exact .inr h1
    · rcases List.mem_append.1 hk with hk | hk
      · rcases List.mem_append.1 hk with hk | hk
        · exact .inl (.inr ⟨k, hka k hk, hx⟩)
        · rcases (hm k hk).2.2.2.1 x hx with ⟨q, hq, h1⟩ | h1 | h1
          · exact .inl (.inr ⟨q, hkm q hq, h1⟩)
          · exact .inl (.inl h1)
          · exact .inr h1
      · exact .inl (.inr ⟨k, hkb k hk, hx⟩)

/-- the same tree with other items in its first node. -/
def Tr.setx : {d : Nat} → Tr I d → List I → Tr I d
  | 0, .leaf h, xs => .leaf { h with xs := xs }
  | _ + 1, .node h ks, xs => .node { h with xs := xs } ks
theorem Tr.setx_own : {d : Nat} → (t : Tr I d) → (xs : List I) → ∀ b, (t.setx xs).own b ↔ t.own b
  | 0, .leaf _, _, _ => Iff.rfl
  | _ + 1, .node _ _, _, _ => Iff.rfl
theorem Tr.setx_hd : {d : Nat} → (t : Tr I d) → (xs : List I) → (t.setx xs).hd = { t.hd with xs := xs }
  | 0, .leaf _, _ => rfl
  | _ + 1, .node _ _, _ => rfl
theorem Tr.setx_ok {C : Nat → Prop} {w w' : World} (hf : Fr C w w') : {d : Nat} → {t : Tr I d} → {xs : List I} → t.ok κ w → (∀ b, C b → t.hd.own b) → ({ t.hd with xs := xs } : Hd I).lies κ w' t.ptrs → xs.length = t.n → (t.setx xs).ok κ w'
  | 0, .leaf _, _, _o, _, hl, _ => ⟨hl, trivial, trivial⟩
  | _ + 1, .node _h _ks, _xs, o, hC, hl, hx => ⟨⟨hl, fun k hk => Tr.lies_fr hf (o.lies.2 k hk) fun b hb hc => (o.sep.1 k hk).1 b (hC b hc) hb⟩, ⟨fun k hk => o.sep.1 k hk, o.sep.2⟩, ⟨o.shape.1.trans (congrArg (· + 1) hx.symm), o.shape.2⟩⟩
theorem Tr.sub_hd : {d : Nat} → (t : Tr I d) → t.hd.xs.Sublist t.flat
  | 0, .leaf _ => List.Sublist.refl _
  | _ + 1, .node _ _ => sub_weave _ _
theorem Tr.ptrs_len : {d : Nat} → {t : Tr I d} → t.shape → t.ptrs.length = 0 ∨ t.ptrs.length = t.n + 1
  | 0, .leaf _, _ => .inl rfl
  | _ + 1, .node _ _, hs => .inr ((List.length_map _).trans hs.1)
theorem list_mid {α : Type} {xs : List α} {i : Nat} {x : α} (h : xs[i]? = some x) : xs = xs.take i ++ x :: xs.drop (i + 1) := by
  obtain ⟨hl, he⟩ := List.getElem?_eq_some_iff.1 h
  rw [← he, List.getElem_cons_drop, List.take_append_drop]
theorem set_mid {α : Type} {xs : List α} {i : Nat} {x : α} (h : xs[i]? = some x) (y : α) : xs.set i y = xs.take i ++ y :: xs.drop (i + 1) := by
  have hl := (List.getElem?_eq_some_iff.1 h).1
  rw [List.set_eq_take_append_cons_drop, if_pos hl]
theorem map_mid {α β : Type} (f : α → β) (a b : List α) (k : α) : (a ++ [k] ++ b).map f = a.map f ++ f k :: b.map f := by simp
theorem Tr.flat_set : {d : Nat} → {t : Tr I d} → t.shape → {i : Nat} → {x : I} → t.hd.xs[i]? = some x → ∃ P Q, t.flat = P ++ [x] ++ Q ∧ ∀ y, (t.setx (t.hd.xs.set i y)).flat = P ++ [y] ++ Q
  | 0, .leaf h, _, i, x, hx => ⟨h.xs.take i, h.xs.drop (i + 1), by
      show h.xs = _
      rw [List.append_assoc]
      exact list_mid hx, fun y => by
      show h.xs.set i y = _
      rw [List.append_assoc]
      exact set_mid hx y⟩
  | _ + 1, .node h ks, hs, i, x, hx => by
    have hl := (List.getElem?_eq_some_iff.1 hx).1
    have hk : ks.length = h.xs.length + 1 := hs.1
    have hl2 : i < h.xs.length := hl
    replace hx : h.xs[i]? = some x := hx
    obtain ⟨l, h1⟩ : ∃ l, ks[i]? = some l := ⟨_, List.getElem?_eq_getElem (by omega)⟩
    obtain ⟨r, h2⟩ : ∃ r, ks[i + 1]? = some r := ⟨_, List.getElem?_eq_getElem (by omega)⟩
    have e1 : ks = ks.take i ++ l :: r :: ks.drop (i + 2) := by
      have := list_mid h1
      have h3 : (ks.drop (i + 1)) = r :: ks.drop (i + 2) := by
        have := list_mid (xs := ks.drop (i + 1)) (i := 0) (x := r) (by rw [List.getElem?_drop]; exact h2)
        simpa [List.drop_drop] using this
      rw [h3] at this
      exact this
    have key : ∀ y, weave (ks.map Tr.flat) (h.xs.take i ++ y :: h.xs.drop (i + 1)) = preW ((ks.take i).map Tr.flat) (h.xs.take i) ++ (l.flat ++ y :: r.flat) ++ postW (h.xs.drop (i + 1)) ((ks.drop (i + 2)).map Tr.flat) := fun y => by
      have e2 : ks.map Tr.flat = (ks.take i).map Tr.flat ++ l.flat :: r.flat :: (ks.drop (i + 2)).map Tr.flat := by
        rw [← List.map_cons, ← List.map_cons, ← List.map_append, ← e1]
      rw [e2]
      exact weave_two _ _ (by rw [List.length_map, List.length_take, List.length_take]; omega) _ _ _ _ _ (by rw [List.length_map, List.length_drop, List.length_drop]; omega)
    refine ⟨preW ((ks.take i).map Tr.flat) (h.xs.take i) ++ l.flat, r.flat ++ postW (h.xs.drop (i + 1)) ((ks.drop (i + 2)).map Tr.flat), ?_, fun y => ?_⟩
    · show weave (ks.map Tr.flat) h.xs = _
      have h3 := key x
      rw [← list_mid hx] at h3
      rw [h3]
      simp
    · show weave (ks.map Tr.flat) (h.xs.set i y) = _
      rw [set_mid hx, key y]
      simp
/-- a kid's place: those ahead, it, those behind. -/
theorem Tr.flat_mid {d : Nat} {h : Hd I} {a b : List (Tr I d)} {k : Tr I d} (hl : (a ++ [k] ++ b).length = h.xs.length + 1) :
    (Tr.node h (a ++ [k] ++ b)).flat = preW (a.map Tr.flat) (h.xs.take a.length) ++ k.flat ++ postW (h.xs.drop a.length) (b.map Tr.flat) := by
  simp only [List.length_append, List.length_singleton] at hl
  have key := weave_mid (a.map Tr.flat) (h.xs.take a.length) (by rw [List.length_map, List.length_take]; omega) k.flat (h.xs.drop a.length) (b.map Tr.flat) (by rw [List.length_map, List.length_drop]; omega)
  rw [List.take_append_drop] at key
  show weave ((a ++ [k] ++ b).map Tr.flat) h.xs = _
  rw [map_mid, key]
theorem Tr.flat_two {d : Nat} {h : Hd I} {a b : List (Tr I d)} {l r : Tr I d} {x y : List I} {m : I} (hx : h.xs = x ++ m :: y) (h1 : a.length = x.length) (h2 : y.length = b.length) :
    (Tr.node h (a ++ [l, r] ++ b)).flat = preW (a.map Tr.flat) x ++ (l.flat ++ m :: r.flat) ++ postW y (b.map Tr.flat) := by
  show weave ((a ++ [l, r] ++ b).map Tr.flat) h.xs = _
  rw [hx, ← weave_two (a.map Tr.flat) x (by rw [List.length_map]; exact h1) l.flat m r.flat y (b.map Tr.flat) (by rw [List.length_map]; exact h2)]
  congr 1
  simp

theorem weave_split (a : List (List I)) (x : List I) (h : a.length = x.length + 1) (m : I) (b : List (List I)) (y : List I) : weave (a ++ b) (x ++ m :: y) = weave a x ++ m :: weave b y := by
  induction x generalizing a with
  | nil =>
    match a, h with
    | [z], _ => cases b <;> simp [weave]
  | cons i is ih =>
    match a, h with
    | z :: t, h =>
      show z ++ i :: weave (t ++ b) (is ++ m :: y) = (z ++ i :: weave t is) ++ m :: weave b y
      rw [ih t (by simpa using h)]
      simp
/-- a kid that was too full, as two. -/
theorem Tr.parted {C : Nat → Prop} {w w' : World} (hf : Fr C w w') : {d : Nat} → {k : Tr I d} → k.ok κ w → k.n = 17 → {l r : Hd I} → {m : I} → k.hd.xs[8]? = some m → l.xs = k.hd.xs.take 8 → r.xs = k.hd.xs.drop 9 →
    l.lies κ w' (k.ptrs.take 9) → r.lies κ w' (k.ptrs.drop 9) → (∀ b, l.own b → k.hd.own b) → (∀ b, r.own b → w.heap.size ≤ b) → (∀ b, C b → k.hd.own b ∨ ¬ k.own b) →
    ∃ tl tr : Tr I d, tl.hd = l ∧ tr.hd = r ∧ tl.ok κ w' ∧ tr.ok κ w' ∧ tl.flat ++ m :: tr.flat = k.flat ∧ (∀ b, tl.own b → k.own b) ∧ (∀ b, tr.own b → r.own b ∨ k.own b) ∧ Dj tl.own tr.own
  | 0, .leaf h, o, h17, l, r, m, hm, hl, hr, l1, l2, o1, o2, _ => by
    refine ⟨.leaf l, .leaf r, rfl, rfl, ⟨l1, trivial, trivial⟩, ⟨l2, trivial, trivial⟩, ?_, o1, fun b hb => .inl hb, fun b x y => ?_⟩
    · show l.xs ++ m :: r.xs = h.xs
      rw [hl, hr]
      exact (list_mid hm).symm
    · have h1 := o2 b y
      have h2 := o.lt (o1 b x)
      omega
  | d + 1, .node h ks, o, h17, l, r, m, hm, hl, hr, l1, l2, o1, o2, hC => by
    have hk : ks.length = h.xs.length + 1 := o.shape.1
    have hn : h.xs.length = 17 := h17
    have kid : ∀ k ∈ ks, k.ok κ w' ∧ 8 ≤ k.n ∧ k.n ≤ 16 := fun k hk => ⟨(o.kid hk).1.fr hf fun b hb hc => by
      rcases hC b hc with h1 | h1
      · exact (o.sep.1 k hk).1 b h1 hb
      · exact h1 (.inr ⟨k, hk, hb⟩), (o.kid hk).2⟩
    have ht : ∀ k ∈ ks.take 9, k ∈ ks := fun k hk => List.mem_of_mem_take hk
    have hd : ∀ k ∈ ks.drop 9, k ∈ ks := fun k hk => List.mem_of_mem_drop hk
    have hp : (ks.take 9 ++ ks.drop 9).Pairwise fun k k' => Dj k.own k'.own := by rw [List.take_append_drop]; exact o.sep.2
    rw [List.pairwise_append] at hp
    have e1 : (Tr.node h ks).ptrs = ks.map Tr.g := rfl
    rw [e1, ← List.map_take] at l1
    rw [e1, ← List.map_drop] at l2
    have lt : ∀ k ∈ ks, ∀ b, k.own b → b < w.heap.size := fun k hk b hb => (o.kid hk).1.lt hb
    refine ⟨.node l (ks.take 9), .node r (ks.drop 9), rfl, rfl, ⟨⟨l1, fun k hk => (kid k (ht k hk)).1.lies⟩, ⟨fun k hk => ⟨fun b x y => (o.sep.1 k (ht k hk)).1 b (o1 b x) y, (o.sep.1 k (ht k hk)).2⟩, hp.1⟩, ?_, fun k hk => ⟨(kid k (ht k hk)).1.shape, (kid k (ht k hk)).2⟩⟩,
      ⟨⟨l2, fun k hk => (kid k (hd k hk)).1.lies⟩, ⟨fun k hk => ⟨fun b x y => by have h1 := o2 b x; have h2 := lt k (hd k hk) b y; omega, (o.sep.1 k (hd k hk)).2⟩, hp.2.1⟩, ?_, fun k hk => ⟨(kid k (hd k hk)).1.shape, (kid k (hd k hk)).2⟩⟩, ?_, ?_, ?_, ?_⟩
    · rw [hl, List.length_take, List.length_take]; show min 9 ks.length = min 8 h.xs.length + 1; omega
    · rw [hr, List.length_drop, List.length_drop]; show ks.length - 9 = h.xs.length - 9 + 1; omega
    · show weave ((ks.take 9).map Tr.flat) l.xs ++ m :: weave ((ks.drop 9).map Tr.flat) r.xs = weave (ks.map Tr.flat) h.xs
      replace hm : h.xs[8]? = some m := hm
      replace hl : l.xs = h.xs.take 8 := hl
      replace hr : r.xs = h.xs.drop 9 := hr
      rw [hl, hr]
      have := weave_split ((ks.take 9).map Tr.flat) (h.xs.take 8) (by rw [List.length_map, List.length_take, List.length_take]; omega) m ((ks.drop 9).map Tr.flat) (h.xs.drop 9)
      rw [← list_mid hm, ← List.map_append, List.take_append_drop] at this
      exact this.symm
    · rintro b (hb | ⟨k, hk, hb⟩)
      · exact .inl (o1 b hb)
      · exact .inr ⟨k, ht k hk, hb⟩
    · rintro b (hb | ⟨k, hk, hb⟩)
      · exact .inl hb
      · exact .inr (.inr ⟨k, hd k hk, hb⟩)
    · rintro b (x | ⟨k, hk, x⟩) (y | ⟨k', hk', y⟩)
      · have h1 := o2 b y; have h2 := o.lt (.inl (o1 b x)); omega
      · exact (o.sep.1 k' (hd k' hk')).1 b (o1 b x) y
      · have h1 := o2 b y; have h2 := lt k (ht k hk) b x; omega
      · exact hp.2.2 k hk k' hk' b x y
end
section
variable {K V : Type} {lt : K → K → Bool}
theorem IsAt.strict (L : Lin lt) {xs : List (K × V)} {key : K} {i : Nat} (h : IsAt lt xs key i) (hu : UpI lt xs) (hn : ¬ ∃ v, xs[i]? = some (key, v)) : ∀ j x, i ≤ j → xs[j]? = some x → lt key x.1 = true := by
  intro j x hj hx
  cases hc : lt key x.1 with
  | true => rfl
  | false =>
    exfalso
    have e : x.1 = key := L.tot (h.above j x hj hx) hc
    rcases Nat.eq_or_lt_of_le hj with e2 | e2
    · subst e2
      exact hn ⟨x.2, by rw [hx, ← e]⟩
    · have hi : i < xs.length := Nat.lt_trans e2 (List.getElem?_eq_some_iff.1 hx).1
      have h1 := hu.get e2 (List.getElem?_eq_getElem hi) hx
      have h2 := h.above i xs[i] (Nat.le_refl _) (List.getElem?_eq_getElem hi)
      rw [e, h2] at h1
      cases h1
theorem IsAt.take {xs : List (K × V)} {key : K} {i : Nat} (h : IsAt lt xs key i) : ∀ p ∈ xs.take i, lt p.1 key = true := by
  intro p hp
  obtain ⟨j, hj⟩ := List.getElem?_of_mem hp
  rw [List.getElem?_take] at hj
  split at hj
  · exact h.below j p ‹_› hj
  · cases hj
theorem IsAt.drop (L : Lin lt) {xs : List (K × V)} {key : K} {i : Nat} (h : IsAt lt xs key i) (hu : UpI lt xs) (hn : ¬ ∃ v, xs[i]? = some (key, v)) : ∀ p ∈ xs.drop i, lt key p.1 = true := by
  intro p hp
  obtain ⟨j, hj⟩ := List.getElem?_of_mem hp
  rw [List.getElem?_drop] at hj
  exact h.strict L hu hn (i + j) p (Nat.le_add_right _ _) hj
theorem IsAt.no (L : Lin lt) {xs : List (K × V)} {key : K} {i : Nat} (h : IsAt lt xs key i) (hu : UpI lt xs) (hn : ¬ ∃ v, xs[i]? = some (key, v)) (u : V) : (key, u) ∉ xs := fun hm => by
  rw [← List.take_append_drop i xs] at hm
  rcases List.mem_append.1 hm with h1 | h1
  · have := h.take _ h1; rw [L.irr] at this; cases this
  · have := h.drop L hu hn _ h1; rw [L.irr] at this; cases this
theorem IsAt.put (L : Lin lt) {xs : List (K × V)} {key : K} {i : Nat} (h : IsAt lt xs key i) (hu : UpI lt xs) (hn : ¬ ∃ v, xs[i]? = some (key, v)) (v : V) : putL lt key v xs = xs.take i ++ (key, v) :: xs.drop i := by
  have := putL_mid L (M := []) (v := v) h.take (h.drop L hu hn)
  rw [List.append_nil, List.take_append_drop] at this
  rw [this, putL_nil]
  simp
theorem up_mid (_L : Lin lt) {key : K} {u : V} {P Q : List (K × V)} (h : UpI lt (P ++ [(key, u)] ++ Q)) : (∀ p ∈ P, lt p.1 key = true) ∧ ∀ p ∈ Q, lt key p.1 = true := by
  unfold UpI at h
  rw [List.pairwise_append, List.pairwise_append] at h
  exact ⟨fun p hp => h.1.2.2 p hp _ (List.mem_singleton.2 rfl), fun p hp => h.2.2 _ (List.mem_append_right _ (List.mem_singleton.2 rfl)) p hp⟩
/-- a key that is in no item of the node: what stands ahead of the kid is below it, what stands behind is above. -/
theorem node_sides (L : Lin lt) {d : Nat} {h : Hd (K × V)} {a b : List (Tr (K × V) d)} {k : Tr (K × V) d} (hl : (a ++ [k] ++ b).length = h.xs.length + 1) (hu : UpI lt (Tr.node h (a ++ [k] ++ b)).flat) {key : K} (hi : IsAt lt h.xs key a.length) (hn : ¬ ∃ v, h.xs[a.length]? = some (key, v)) :
    (∀ p ∈ preW (a.map Tr.flat) (h.xs.take a.length), lt p.1 key = true) ∧ ∀ p ∈ postW (h.xs.drop a.length) (b.map Tr.flat), lt key p.1 = true := by
  have hx : UpI lt h.xs := hu.sub (sub_weave _ _)
  rw [Tr.flat_mid hl] at hu
  refine ⟨pre_below L _ _ (hu.sub ((List.sublist_append_left _ _).trans (List.sublist_append_left _ _))) hi.take, post_above L _ _ (hu.sub (List.sublist_append_right _ _)) fun p hp => ?_⟩
  rw [List.getElem?_drop] at hp
  exact hi.strict L hx hn a.length p (Nat.le_refl _) hp
end
end Go.Proofs.Ytkdcacajacndmaa
