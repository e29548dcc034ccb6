/- A node of which two children beside each other have exchanged items, or become one. No condition. -/
import Derived.Test.YtkdcacajacndmaaP5
namespace Go.Proofs.Ytkdcacajacndmaa
open Go.RowKit
section
variable {I : Type} {κ : TK I}
theorem pair_mid {α : Type} (a b : List α) (l r : α) : a ++ [l] ++ [r] ++ b = a ++ [l, r] ++ b := by simp
theorem Tr.shifted {w w' : World} {d : Nat} {h : Hd I} {a b : List (Tr I d)} {l r : Tr I d} {m z : I} (ol : (Tr.node h (a ++ [l, r] ++ b)).lies κ w) (os : (Tr.node h (a ++ [l, r] ++ b)).sep) (hlen : (a ++ [l, r] ++ b).length = h.xs.length + 1)
    (oth : ∀ q ∈ a ++ b, q.shape ∧ 8 ≤ q.n ∧ q.n ≤ 16) (lsh : l.shape) (rsh : r.shape) (hm : h.xs[a.length]? = some m) {h1 h2 : Hd I} {qs1 qs2 : List Nat} (e1 : h1.xs ++ z :: h2.xs = l.hd.xs ++ m :: r.hd.xs) (eq : qs1 ++ qs2 = l.ptrs ++ r.ptrs)
    (hn : qs1.length = 0 ∧ qs2.length = 0 ∨ qs1.length = h1.xs.length + 1 ∧ qs2.length = h2.xs.length + 1) (l1 : h1.lies κ w' qs1) (l2 : h2.lies κ w' qs2) (g1 : h1.g = l.g) (g2 : h2.g = r.g) (o1 : ∀ b, h1.own b → l.hd.own b ∨ w.heap.size ≤ b) (o2 : ∀ b, h2.own b → r.hd.own b ∨ w.heap.size ≤ b) (dd : Dj h1.own h2.own)
    (hh : ({ h with xs := h.xs.set a.length z } : Hd I).lies κ w' ((a ++ [l, r] ++ b).map Tr.g)) (hf : Fr (fun b => h.own b ∨ l.hd.own b ∨ r.hd.own b) w w') (s1 : 8 ≤ h1.xs.length ∧ h1.xs.length ≤ 16) (s2 : 8 ≤ h2.xs.length ∧ h2.xs.length ≤ 16) :
    ∃ ks' : List (Tr I d), (Tr.node { h with xs := h.xs.set a.length z } ks').ok κ w' ∧ (Tr.node { h with xs := h.xs.set a.length z } ks').flat = (Tr.node h (a ++ [l, r] ++ b)).flat ∧ Stp w w' (Tr.node h (a ++ [l, r] ++ b)).own (Tr.node { h with xs := h.xs.set a.length z } ks').own := by
  have ml : l ∈ a ++ [l, r] ++ b := by simp
  have mr : r ∈ a ++ [l, r] ++ b := by simp
  have okl : l.ok κ w := ⟨ol.2 l ml, (os.1 l ml).2, lsh⟩
  have okr : r.ok κ w := ⟨ol.2 r mr, (os.1 r mr).2, rsh⟩
  have hp := os.2
  rw [List.pairwise_append, List.pairwise_append] at hp
  have dlr : Dj l.own r.own := (List.pairwise_cons.1 hp.1.2.1).1 r (List.mem_singleton.2 rfl)
  have dhl := (os.1 l ml).1
  have dhr := (os.1 r mr).1
  obtain ⟨t1, t2, q1, q2, ok1, ok2, hfl, ho, hd⟩ := Tr.two hf okl okr dlr e1 eq hn l1 l2 o1 o2 dd (fun b hb => by
    rcases hb with hb | hb
    · exact .inr ⟨fun h => dhl b hb h, fun h => dhr b hb h⟩
    · exact .inl hb)
  have hold : ∀ b, t1.own b ∨ t2.own b → (∃ k ∈ [l, r], k.own b) ∨ h.own b ∨ w.heap.size ≤ b := fun b hb => by
    rcases ho b hb with (h | h) | h
    · exact .inl ⟨l, List.mem_cons_self, h⟩
    · exact .inl ⟨r, List.mem_cons_of_mem _ (List.mem_singleton.2 rfl), h⟩
    · exact .inr (.inr h)
  have dht : ∀ b, h.own b → t1.own b ∨ t2.own b → False := fun b x y => by
    rcases ho b y with (h | h) | h
    · exact dhl b x h
    · exact dhr b x h
    · have := ol.1.lt x; omega
  have hml := (List.getElem?_eq_some_iff.1 hm).1
  have hgm : (a ++ [t1, t2] ++ b).map Tr.g = (a ++ [l, r] ++ b).map Tr.g := by
    simp only [List.map_append, List.map_cons, List.map_nil]
    rw [show Tr.g t1 = l.g from (congrArg Hd.g q1).trans g1, show Tr.g t2 = r.g from (congrArg Hd.g q2).trans g2]
  have hseg := Tr.ok_seg2 (m' := [t1, t2]) (h' := { h with xs := h.xs.set a.length z }) ol os oth hf (fun x hx => by
      rcases hx with hx | hx | hx
      · exact .inl hx
      · exact .inr ⟨l, List.mem_cons_self, l.own_hd hx⟩
      · exact .inr ⟨r, List.mem_cons_of_mem _ (List.mem_singleton.2 rfl), r.own_hd hx⟩)
    (by rw [hgm]; exact hh) (fun x hx => .inl hx) (fun q hq => by
      rcases List.mem_cons.1 hq with rfl | hq
      · exact ⟨ok1, by show 8 ≤ q.hd.xs.length; rw [q1]; exact s1.1, by show q.hd.xs.length ≤ 16; rw [q1]; exact s1.2, fun x hx => hold x (.inl hx), fun b x y => dht b x (.inl y)⟩
      · obtain rfl := List.mem_singleton.1 hq
        exact ⟨ok2, by show 8 ≤ q.hd.xs.length; rw [q2]; exact s2.1, by show q.hd.xs.length ≤ 16; rw [q2]; exact s2.2, fun x hx => hold x (.inr hx), fun b x y => dht b x (.inr y)⟩)
    (by rw [List.pairwise_cons]; exact ⟨fun q hq => by obtain rfl := List.mem_singleton.1 hq; exact hd, List.pairwise_singleton _ _⟩)
    (by show _ = (h.xs.set a.length z).length + 1; rw [List.length_set, ← hlen]; simp)
  refine ⟨a ++ [t1, t2] ++ b, hseg.1, ?_, hseg.2⟩
  have hb : (h.xs.drop (a.length + 1)).length = b.length := by
    rw [List.length_drop]
    simp only [List.length_append, List.length_cons, List.length_nil] at hlen
    omega
  rw [Tr.flat_two (h := h) (list_mid hm) (by rw [List.length_take]; omega) hb, Tr.flat_two (h := { h with xs := h.xs.set a.length z }) (set_mid hm z) (by rw [List.length_take]; omega) hb, hfl]
theorem Tr.merged {w w' : World} {d : Nat} {h h' : Hd I} {a b : List (Tr I d)} {l r : Tr I d} {m : I} (ol : (Tr.node h (a ++ [l, r] ++ b)).lies κ w) (os : (Tr.node h (a ++ [l, r] ++ b)).sep) (hlen : (a ++ [l, r] ++ b).length = h.xs.length + 1)
    (oth : ∀ q ∈ a ++ b, q.shape ∧ 8 ≤ q.n ∧ q.n ≤ 16) (lsh : l.shape) (rsh : r.shape) (hm : h.xs[a.length]? = some m) {h1 : Hd I} (e1 : h1.xs = l.hd.xs ++ m :: r.hd.xs) (l1 : h1.lies κ w' (l.ptrs ++ r.ptrs)) (g1 : h1.g = l.g) (o1 : ∀ b, h1.own b → l.hd.own b ∨ w.heap.size ≤ b)
    (hx' : h'.xs = h.xs.take a.length ++ h.xs.drop (a.length + 1)) (hh : h'.lies κ w' (((a ++ [l, r] ++ b).map Tr.g).take (a.length + 1) ++ ((a ++ [l, r] ++ b).map Tr.g).drop (a.length + 2))) (oh : ∀ b, h'.own b → h.own b) (hf : Fr (fun b => h.own b ∨ l.hd.own b) w w') (s1 : 8 ≤ h1.xs.length ∧ h1.xs.length ≤ 16) :
    ∃ ks' : List (Tr I d), (Tr.node h' ks').ok κ w' ∧ (Tr.node h' ks').flat = (Tr.node h (a ++ [l, r] ++ b)).flat ∧ Stp w w' (Tr.node h (a ++ [l, r] ++ b)).own (Tr.node h' ks').own := by
  have ml : l ∈ a ++ [l, r] ++ b := by simp
  have mr : r ∈ a ++ [l, r] ++ b := by simp
  have okl : l.ok κ w := ⟨ol.2 l ml, (os.1 l ml).2, lsh⟩
  have okr : r.ok κ w := ⟨ol.2 r mr, (os.1 r mr).2, rsh⟩
  have hp := os.2
  rw [List.pairwise_append, List.pairwise_append] at hp
  have dlr : Dj l.own r.own := (List.pairwise_cons.1 hp.1.2.1).1 r (List.mem_singleton.2 rfl)
  have dhl := (os.1 l ml).1
  have dhr := (os.1 r mr).1
  obtain ⟨t, q1, ok1, hfl, ho⟩ := Tr.one hf okl okr dlr e1 l1 o1 (fun b hb => by
    rcases hb with hb | hb
    · exact .inr ⟨fun h => dhl b hb h, fun h => dhr b hb h⟩
    · exact .inl (.inl hb))
  have hml := (List.getElem?_eq_some_iff.1 hm).1
  have hl2 := hlen
  simp only [List.length_append, List.length_cons, List.length_nil] at hl2
  have hgm : ((a ++ [l, r] ++ b).map Tr.g).take (a.length + 1) ++ ((a ++ [l, r] ++ b).map Tr.g).drop (a.length + 2) = (a ++ [t] ++ b).map Tr.g := by
    have hag : (a.map Tr.g).length = a.length := List.length_map _
    have e3 : (a ++ [l, r] ++ b).map Tr.g = a.map Tr.g ++ (l.g :: r.g :: b.map Tr.g) := by simp
    rw [e3, map_mid, show Tr.g t = l.g from (congrArg Hd.g q1).trans g1, ← hag, List.take_length_add_append, List.drop_length_add_append]
    simp
  have dht : Dj h'.own t.own := fun b x y => by
    have hx := oh b x
    rcases ho b y with (h2 | h2) | h2
    · exact dhl b hx h2
    · exact dhr b hx h2
    · have := ol.1.lt hx; omega
  have hseg := Tr.ok_seg2 (m' := [t]) (h' := h') ol os oth hf (fun x hx => by
      rcases hx with hx | hx
      · exact .inl hx
      · exact .inr ⟨l, List.mem_cons_self, l.own_hd hx⟩)
    (by rw [← hgm]; exact hh) (fun x hx => .inl (oh x hx)) (fun q hq => by
      obtain rfl := List.mem_singleton.1 hq
      refine ⟨ok1, by show 8 ≤ q.hd.xs.length; rw [q1]; exact s1.1, by show q.hd.xs.length ≤ 16; rw [q1]; exact s1.2, fun x hx => ?_, dht⟩
      rcases ho x hx with (h | h) | h
      · exact .inl ⟨l, List.mem_cons_self, h⟩
      · exact .inl ⟨r, List.mem_cons_of_mem _ (List.mem_singleton.2 rfl), h⟩
      · exact .inr (.inr h))
    (List.pairwise_singleton _ _)
    (by rw [hx']; simp only [List.length_append, List.length_cons, List.length_nil, List.length_take, List.length_drop]; omega)
  refine ⟨a ++ [t] ++ b, hseg.1, ?_, hseg.2⟩
  have hb : (h.xs.drop (a.length + 1)).length = b.length := by rw [List.length_drop]; omega
  have hat : (h.xs.take a.length).length = a.length := by rw [List.length_take]; omega
  rw [Tr.flat_two (h := h) (list_mid hm) hat.symm hb, Tr.flat_mid (h := h') (by rw [hx']; simp only [List.length_append, List.length_cons, List.length_nil, List.length_take, List.length_drop]; omega), hx', hfl]
  have e4 : (h.xs.take a.length ++ h.xs.drop (a.length + 1)).take a.length = h.xs.take a.length := by
    have := List.take_left (l₁ := h.xs.take a.length) (l₂ := h.xs.drop (a.length + 1))
    rwa [hat] at this
  have e5 : (h.xs.take a.length ++ h.xs.drop (a.length + 1)).drop a.length = h.xs.drop (a.length + 1) := by
    have := List.drop_left (l₁ := h.xs.take a.length) (l₂ := h.xs.drop (a.length + 1))
    rwa [hat] at this
  rw [e4, e5]
end
end Go.Proofs.Ytkdcacajacndmaa
