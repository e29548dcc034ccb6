/- Trees in memory: two kids beside each other that exchange, or become one; what is taken out of a rising list. No condition. -/
import Derived.Test.YtkdcacajacndmaaP2
namespace Go.Proofs.Ytkdcacajacndmaa
open Go.RowKit
section
variable {I : Type} {κ : TK I}
/-- some kids in the place of others, whose sizes are not asked. -/
theorem Tr.ok_seg2 {d : Nat} {w w' : World} {h h' : Hd I} {a m m' b : List (Tr I d)} {C : Nat → Prop} (ol : (Tr.node h (a ++ m ++ b)).lies κ w) (os : (Tr.node h (a ++ m ++ b)).sep) (oh : ∀ k ∈ a ++ b, k.shape ∧ 8 ≤ k.n ∧ k.n ≤ 16)
    (hf : Fr C w w') (hC : ∀ x, C x → h.own x ∨ ∃ k ∈ m, k.own x)
    (hh : h'.lies κ w' ((a ++ m' ++ b).map Tr.g)) (hho : ∀ x, h'.own x → h.own x ∨ (∃ k ∈ m, k.own x) ∨ w.heap.size ≤ x)
    (hm : ∀ k' ∈ m', k'.ok κ w' ∧ 8 ≤ k'.n ∧ k'.n ≤ 16 ∧ (∀ x, k'.own x → (∃ k ∈ m, k.own x) ∨ h.own x ∨ w.heap.size ≤ x) ∧ Dj h'.own k'.own)
    (hp : m'.Pairwise fun k k' => Dj k.own k'.own) (hl : (a ++ m' ++ b).length = h'.xs.length + 1) :
    (Tr.node h' (a ++ m' ++ b)).ok κ w' ∧ Stp w w' (Tr.node h (a ++ m ++ b)).own (Tr.node h' (a ++ m' ++ b)).own := by
  have hka : ∀ k ∈ a, k ∈ a ++ m ++ b := fun k hk => by simp [hk]
  have hkb : ∀ k ∈ b, k ∈ a ++ m ++ b := fun k hk => by simp [hk]
  have hkm : ∀ k ∈ m, k ∈ a ++ m ++ b := fun k hk => by simp [hk]
  have kid : ∀ k, (k ∈ a ∨ k ∈ b) → k.ok κ w ∧ 8 ≤ k.n ∧ k.n ≤ 16 := fun k hk => by
    have h1 : k ∈ a ++ m ++ b := by rcases hk with h | h; exact hka k h; exact hkb k h
    have h2 : k ∈ a ++ b := by rcases hk with h | h; exact List.mem_append_left _ h; exact List.mem_append_right _ h
    exact ⟨⟨ol.2 k h1, (os.1 k h1).2, (oh k h2).1⟩, (oh k h2).2⟩
  have h2 := os.2
  rw [List.pairwise_append, List.pairwise_append] at h2
  obtain ⟨⟨pa, pm, pam⟩, pb, pab⟩ := h2
  have old : ∀ k, (k ∈ a ∨ k ∈ b) → k.ok κ w' ∧ 8 ≤ k.n ∧ k.n ≤ 16 := fun k hk => by
    have hk2 : k ∈ a ++ m ++ b := by rcases hk with h | h; exact hka k h; exact hkb k h
    refine ⟨(kid k hk).1.fr hf fun x hx hc => ?_, (kid k hk).2⟩
    rcases hC x hc with h1 | ⟨q, hq, h1⟩
    · exact (os.1 k hk2).1 x h1 hx
    · rcases hk with hk | hk
      · exact pam k hk q hq x hx h1
      · exact pab q (List.mem_append_right _ hq) k hk x h1 hx
  refine ⟨⟨⟨hh, fun k hk => ?_⟩, sep_seg (N := w.heap.size) os (fun k hk x hx => (kid k (.inl hk)).1.lt hx) (fun k hk x hx => (kid k (.inr hk)).1.lt hx) hho (fun k' hk' => ⟨(hm k' hk').2.2.2.1, (hm k' hk').1.sep, (hm k' hk').2.2.2.2⟩) hp, hl, fun k hk => ?_⟩, ⟨hf.mono fun x _ hx => ?_, fun x hx => ?_⟩⟩
  · rcases List.mem_append.1 hk with hk | hk
    · rcases List.mem_append.1 hk with hk | hk
      · exact (old k (.inl hk)).1.lies
      · exact (hm k hk).1.lies
    · exact (old k (.inr hk)).1.lies
  · rcases List.mem_append.1 hk with hk | hk
    · rcases List.mem_append.1 hk with hk | hk
      · exact ⟨(old k (.inl hk)).1.shape, (old k (.inl hk)).2⟩
      · exact ⟨(hm k hk).1.shape, (hm k hk).2.1, (hm k hk).2.2.1⟩
    · exact ⟨(old k (.inr hk)).1.shape, (old k (.inr hk)).2⟩
  · rcases hC x hx with h1 | ⟨q, hq, h1⟩
    · exact .inl h1
    · exact .inr ⟨q, hkm q hq, h1⟩
  · rcases hx with hx | ⟨k, hk, hx⟩
    · rcases hho x hx with h1 | ⟨q, hq, h1⟩ | h1
      · exact .inl (.inl h1)
      · exact .inl (.inr ⟨q, hkm q hq, h1⟩)
      · exact .inr h1
    · rcases List.mem_append.1 hk with hk | hk
      · rcases List.mem_append.1 hk with hk | hk
        · exact .inl (.inr ⟨k, hka k hk, hx⟩)
        · rcases (hm k hk).2.2.2.1 x hx with ⟨q, hq, h1⟩ | h1 | h1
          · exact .inl (.inr ⟨q, hkm q hq, h1⟩)
          · exact .inl (.inl h1)
          · exact .inr h1
      · exact .inl (.inr ⟨k, hkb k hk, hx⟩)

theorem Tr.mk_ok {d : Nat} {w : World} {h : Hd I} {ks : List (Tr I d)} (hl : h.lies κ w (ks.map Tr.g)) (hk : ∀ k ∈ ks, k.ok κ w ∧ (8 ≤ k.n ∧ k.n ≤ 16) ∧ Dj h.own k.own) (hp : ks.Pairwise fun k k' => Dj k.own k'.own) (hn : ks.length = h.xs.length + 1) : (Tr.node h ks).ok κ w :=
  ⟨⟨hl, fun k hk' => (hk k hk').1.lies⟩, ⟨fun k hk' => ⟨(hk k hk').2.2, (hk k hk').1.sep⟩, hp⟩, ⟨hn, fun k hk' => ⟨(hk k hk').1.shape, (hk k hk').2.1⟩⟩⟩
/-- the kids of two nodes, behind a change of the nodes themselves. -/
theorem Tr.pool {C : Nat → Prop} {w w' : World} (hf : Fr C w w') {d : Nat} {lh rh : Hd I} {lks rks : List (Tr I d)} (ol : (Tr.node lh lks).ok κ w) (or' : (Tr.node rh rks).ok κ w) (dj : Dj (Tr.node lh lks).own (Tr.node rh rks).own)
    (hC : ∀ b, C b → (lh.own b ∨ rh.own b) ∨ (¬ (Tr.node lh lks).own b ∧ ¬ (Tr.node rh rks).own b)) :
    (∀ k ∈ lks ++ rks, k.ok κ w' ∧ (8 ≤ k.n ∧ k.n ≤ 16) ∧ (∀ b, k.own b → b < w.heap.size) ∧ Dj lh.own k.own ∧ Dj rh.own k.own) ∧ (lks ++ rks).Pairwise fun k k' => Dj k.own k'.own := by
  have hdl : ∀ k ∈ lks, Dj lh.own k.own ∧ Dj rh.own k.own := fun k hk => ⟨(ol.sep.1 k hk).1, fun b h1 h2 => dj b (.inr ⟨k, hk, h2⟩) (.inl h1)⟩
  have hdr : ∀ k ∈ rks, Dj lh.own k.own ∧ Dj rh.own k.own := fun k hk => ⟨fun b h1 h2 => dj b (.inl h1) (.inr ⟨k, hk, h2⟩), (or'.sep.1 k hk).1⟩
  refine ⟨fun k hk => ?_, ?_⟩
  · have h1 : (k.ok κ w ∧ 8 ≤ k.n ∧ k.n ≤ 16) ∧ (Dj lh.own k.own ∧ Dj rh.own k.own) ∧ (∀ b, k.own b → (Tr.node lh lks).own b ∨ (Tr.node rh rks).own b) := by
      rcases List.mem_append.1 hk with hk | hk
      · exact ⟨ol.kid hk, hdl k hk, fun b hb => .inl (.inr ⟨k, hk, hb⟩)⟩
      · exact ⟨or'.kid hk, hdr k hk, fun b hb => .inr (.inr ⟨k, hk, hb⟩)⟩
    refine ⟨h1.1.1.fr hf fun b hb hc => ?_, h1.1.2, fun b hb => h1.1.1.lt hb, h1.2.1⟩
    rcases hC b hc with (h2 | h2) | ⟨h2, h3⟩
    · exact h1.2.1.1 b h2 hb
    · exact h1.2.1.2 b h2 hb
    · rcases h1.2.2 b hb with h | h
      · exact h2 h
      · exact h3 h
  · rw [List.pairwise_append]
    exact ⟨ol.sep.2, or'.sep.2, fun k hk k' hk' b h1 h2 => dj b (.inr ⟨k, hk, h1⟩) (.inr ⟨k', hk', h2⟩)⟩
/-- two nodes beside each other, whose items and kids are told anew between the two. -/
theorem Tr.two {C : Nat → Prop} {w w' : World} (hf : Fr C w w') : ∀ {d : Nat} {l r : Tr I d}, l.ok κ w → r.ok κ w → Dj l.own r.own → ∀ {h1 h2 : Hd I} {m z : I} {qs1 qs2 : List Nat}, h1.xs ++ z :: h2.xs = l.hd.xs ++ m :: r.hd.xs → qs1 ++ qs2 = l.ptrs ++ r.ptrs →
    (qs1.length = 0 ∧ qs2.length = 0 ∨ qs1.length = h1.xs.length + 1 ∧ qs2.length = h2.xs.length + 1) → h1.lies κ w' qs1 → h2.lies κ w' qs2 → (∀ b, h1.own b → l.hd.own b ∨ w.heap.size ≤ b) → (∀ b, h2.own b → r.hd.own b ∨ w.heap.size ≤ b) → Dj h1.own h2.own →
    (∀ b, C b → (l.hd.own b ∨ r.hd.own b) ∨ (¬ l.own b ∧ ¬ r.own b)) →
    ∃ t1 t2 : Tr I d, t1.hd = h1 ∧ t2.hd = h2 ∧ t1.ok κ w' ∧ t2.ok κ w' ∧ t1.flat ++ z :: t2.flat = l.flat ++ m :: r.flat ∧ (∀ b, t1.own b ∨ t2.own b → (l.own b ∨ r.own b) ∨ w.heap.size ≤ b) ∧ Dj t1.own t2.own
  | 0, .leaf lh, .leaf rh, ol, or', dj, h1, h2, m, z, qs1, qs2, hx, hq, _, l1, l2, o1, o2, dd, _ => by
    have e : qs1 = [] ∧ qs2 = [] := List.append_eq_nil_iff.1 hq
    rw [e.1] at l1
    rw [e.2] at l2
    refine ⟨.leaf h1, .leaf h2, rfl, rfl, ⟨l1, trivial, trivial⟩, ⟨l2, trivial, trivial⟩, hx, fun b hb => ?_, dd⟩
    rcases hb with hb | hb
    · rcases o1 b hb with h | h
      · exact .inl (.inl h)
      · exact .inr h
    · rcases o2 b hb with h | h
      · exact .inl (.inr h)
      · exact .inr h
  | d + 1, .node lh lks, .node rh rks, ol, or', dj, h1, h2, m, z, qs1, qs2, hx, hq, hn, l1, l2, o1, o2, dd, hC => by
    obtain ⟨hp1, hp2⟩ := Tr.pool hf ol or' dj hC
    have hll : lks.length = lh.xs.length + 1 := ol.shape.1
    have hrl : rks.length = rh.xs.length + 1 := or'.shape.1
    have hq' : qs1 ++ qs2 = (lks ++ rks).map Tr.g := by rw [List.map_append]; exact hq
    have hql := congrArg List.length hq'
    simp only [List.length_append, List.length_map] at hql
    have hn' : qs1.length = h1.xs.length + 1 ∧ qs2.length = h2.xs.length + 1 := by
      rcases hn with ⟨a, b⟩ | h
      · omega
      · exact h
    obtain ⟨k1, hk1⟩ : ∃ k1, k1 = (lks ++ rks).take qs1.length := ⟨_, rfl⟩
    obtain ⟨k2, hk2⟩ : ∃ k2, k2 = (lks ++ rks).drop qs1.length := ⟨_, rfl⟩
    have hk : k1 ++ k2 = lks ++ rks := by rw [hk1, hk2, List.take_append_drop]
    have e1 : k1.map Tr.g = qs1 := by rw [hk1, List.map_take, ← hq', List.take_left]
    have e2 : k2.map Tr.g = qs2 := by rw [hk2, List.map_drop, ← hq', List.drop_left]
    have n1 : k1.length = h1.xs.length + 1 := by rw [← hn'.1, ← e1, List.length_map]
    have n2 : k2.length = h2.xs.length + 1 := by rw [← hn'.2, ← e2, List.length_map]
    rw [← hk] at hp1 hp2
    rw [← e1] at l1
    rw [← e2] at l2
    have hpp := List.pairwise_append.1 hp2
    have dj1 : ∀ k ∈ k1 ++ k2, Dj h1.own k.own ∧ Dj h2.own k.own := fun k hk => by
      have h3 := (hp1 k hk).2.2
      refine ⟨fun b x y => ?_, fun b x y => ?_⟩
      · rcases o1 b x with h | h
        · exact h3.2.1 b h y
        · have := h3.1 b y; omega
      · rcases o2 b x with h | h
        · exact h3.2.2 b h y
        · have := h3.1 b y; omega
    have m1 : ∀ k ∈ k1, k ∈ k1 ++ k2 := fun k hk => List.mem_append_left _ hk
    have m2 : ∀ k ∈ k2, k ∈ k1 ++ k2 := fun k hk => List.mem_append_right _ hk
    have hown : ∀ k ∈ k1 ++ k2, ∀ b, k.own b → (Tr.node lh lks).own b ∨ (Tr.node rh rks).own b := fun k hk' b hb => by
      rw [hk] at hk'
      rcases List.mem_append.1 hk' with h | h
      · exact .inl (.inr ⟨k, h, hb⟩)
      · exact .inr (.inr ⟨k, h, hb⟩)
    refine ⟨.node h1 k1, .node h2 k2, rfl, rfl, Tr.mk_ok l1 (fun k hk => ⟨(hp1 k (m1 k hk)).1, (hp1 k (m1 k hk)).2.1, (dj1 k (m1 k hk)).1⟩) hpp.1 n1, Tr.mk_ok l2 (fun k hk => ⟨(hp1 k (m2 k hk)).1, (hp1 k (m2 k hk)).2.1, (dj1 k (m2 k hk)).2⟩) hpp.2.1 n2, ?_, fun b hb => ?_, ?_⟩
    · show weave (k1.map Tr.flat) h1.xs ++ z :: weave (k2.map Tr.flat) h2.xs = weave (lks.map Tr.flat) lh.xs ++ m :: weave (rks.map Tr.flat) rh.xs
      rw [← weave_split (k1.map Tr.flat) h1.xs (by rw [List.length_map]; exact n1), ← weave_split (lks.map Tr.flat) lh.xs (by rw [List.length_map]; exact hll), ← List.map_append, ← List.map_append, hk]
      exact congrArg _ hx
    · rcases hb with (hb | ⟨k, hk', hb⟩) | (hb | ⟨k, hk', hb⟩)
      · rcases o1 b hb with h | h
        · exact .inl (.inl (.inl h))
        · exact .inr h
      · exact .inl (hown k (m1 k hk') b hb)
      · rcases o2 b hb with h | h
        · exact .inl (.inr (.inl h))
        · exact .inr h
      · exact .inl (hown k (m2 k hk') b hb)
    · rintro b (x | ⟨k, hk', x⟩) (y | ⟨k', hk'', y⟩)
      · exact dd b x y
      · exact (dj1 k' (m2 k' hk'')).1 b x y
      · exact (dj1 k (m1 k hk')).2 b y x
      · exact hpp.2.2 k hk' k' hk'' b x y
/-- two nodes beside each other become one. -/
theorem Tr.one {C : Nat → Prop} {w w' : World} (hf : Fr C w w') : ∀ {d : Nat} {l r : Tr I d}, l.ok κ w → r.ok κ w → Dj l.own r.own → ∀ {h1 : Hd I} {m : I}, h1.xs = l.hd.xs ++ m :: r.hd.xs → h1.lies κ w' (l.ptrs ++ r.ptrs) → (∀ b, h1.own b → l.hd.own b ∨ w.heap.size ≤ b) →
    (∀ b, C b → (l.hd.own b ∨ r.hd.own b) ∨ (¬ l.own b ∧ ¬ r.own b)) →
    ∃ t : Tr I d, t.hd = h1 ∧ t.ok κ w' ∧ t.flat = l.flat ++ m :: r.flat ∧ (∀ b, t.own b → (l.own b ∨ r.own b) ∨ w.heap.size ≤ b)
  | 0, .leaf lh, .leaf rh, ol, or', dj, h1, m, hx, l1, o1, _ => by
    refine ⟨.leaf h1, rfl, ⟨l1, trivial, trivial⟩, hx, fun b hb => ?_⟩
    rcases o1 b hb with h | h
    · exact .inl (.inl h)
    · exact .inr h
  | d + 1, .node lh lks, .node rh rks, ol, or', dj, h1, m, hx, l1, o1, hC => by
    obtain ⟨hp1, hp2⟩ := Tr.pool hf ol or' dj hC
    have hll : lks.length = lh.xs.length + 1 := ol.shape.1
    have hrl : rks.length = rh.xs.length + 1 := or'.shape.1
    have hx' : h1.xs = lh.xs ++ m :: rh.xs := hx
    refine ⟨.node h1 (lks ++ rks), rfl, Tr.mk_ok (by rw [List.map_append]; exact l1) (fun k hk => ⟨(hp1 k hk).1, (hp1 k hk).2.1, fun b x y => ?_⟩) hp2 (by rw [hx', List.length_append, List.length_append, List.length_cons]; omega), ?_, fun b hb => ?_⟩
    · rcases o1 b x with h | h
      · exact (hp1 k hk).2.2.2.1 b h y
      · have := (hp1 k hk).2.2.1 b y; omega
    · show weave ((lks ++ rks).map Tr.flat) h1.xs = weave (lks.map Tr.flat) lh.xs ++ m :: weave (rks.map Tr.flat) rh.xs
      rw [hx', List.map_append, weave_split (lks.map Tr.flat) lh.xs (by rw [List.length_map]; exact hll)]
    · rcases hb with hb | ⟨k, hk, hb⟩
      · rcases o1 b hb with h | h
        · exact .inl (.inl (.inl h))
        · exact .inr h
      · rcases List.mem_append.1 hk with h | h
        · exact .inl (.inl (.inr ⟨k, h, hb⟩))
        · exact .inl (.inr (.inr ⟨k, h, hb⟩))
/-- a node of which a kid may lack an item. -/
structure Tr.lack (κ : TK I) (w : World) {d : Nat} (h : Hd I) (a : List (Tr I d)) (k : Tr I d) (b : List (Tr I d)) : Prop where
  lies : (Tr.node h (a ++ [k] ++ b)).lies κ w
  sep : (Tr.node h (a ++ [k] ++ b)).sep
  len : (a ++ [k] ++ b).length = h.xs.length + 1
  oth : ∀ q ∈ a ++ b, q.shape ∧ 8 ≤ q.n ∧ q.n ≤ 16
  kid : k.shape ∧ 7 ≤ k.n ∧ k.n ≤ 16
theorem Tr.lack.full {w : World} {d : Nat} {h : Hd I} {a b : List (Tr I d)} {k : Tr I d} (o : Tr.lack κ w h a k b) (h8 : 8 ≤ k.n) : (Tr.node h (a ++ [k] ++ b)).ok κ w := by
  refine ⟨o.lies, o.sep, o.len, fun q hq => ?_⟩
  rcases List.mem_append.1 hq with hq | hq
  · rcases List.mem_append.1 hq with hq | hq
    · exact o.oth q (List.mem_append_left _ hq)
    · obtain rfl := List.mem_singleton.1 hq
      exact ⟨o.kid.1, h8, o.kid.2.2⟩
  · exact o.oth q (List.mem_append_right _ hq)
theorem Tr.lack.ok_kid {w : World} {d : Nat} {h : Hd I} {a b : List (Tr I d)} {k : Tr I d} (o : Tr.lack κ w h a k b) : k.ok κ w := by
  have hm : k ∈ a ++ [k] ++ b := by simp
  exact ⟨o.lies.2 k hm, (o.sep.1 k hm).2, o.kid.1⟩
theorem Tr.lack.ok_oth {w : World} {d : Nat} {h : Hd I} {a b : List (Tr I d)} {k q : Tr I d} (o : Tr.lack κ w h a k b) (hq : q ∈ a ++ b) : q.ok κ w := by
  have hm : q ∈ a ++ [k] ++ b := by
    rcases List.mem_append.1 hq with h | h
    · simp [h]
    · simp [h]
  exact ⟨o.lies.2 q hm, (o.sep.1 q hm).2, (o.oth q hq).1⟩
end
section
variable {K V : Type} {lt : K → K → Bool}
theorem delL_no (L : Lin lt) {key : K} {xs : List (K × V)} (h : ∀ u, (key, u) ∉ xs) : delL lt key xs = xs := by
  unfold delL
  refine filter_all fun p hp => ?_
  cases e1 : lt p.1 key with
  | true => rfl
  | false =>
    cases e2 : lt key p.1 with
    | true => rfl
    | false => exact absurd hp (by have := h p.2; rw [← L.tot e1 e2] at this; exact this)
theorem IsAt.del (L : Lin lt) {xs : List (K × V)} {key : K} {i : Nat} {u : V} (_h : IsAt lt xs key i) (hu : UpI lt xs) (hx : xs[i]? = some (key, u)) : delL lt key xs = xs.take i ++ xs.drop (i + 1) := by
  have e := list_mid hx
  have hu2 : UpI lt (xs.take i ++ [(key, u)] ++ xs.drop (i + 1)) := by rw [List.append_assoc]; show UpI lt (xs.take i ++ (key, u) :: xs.drop (i + 1)); rw [← e]; exact hu
  obtain ⟨h1, h2⟩ := up_mid L hu2
  have h3 := delL_mid L (M := [(key, u)]) h1 h2
  rw [delL_at L, List.append_nil, List.append_assoc] at h3
  rw [← h3]
  exact congrArg _ e
end
end Go.Proofs.Ytkdcacajacndmaa
