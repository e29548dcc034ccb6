/- A node one of whose children has lost an item. No condition. -/
import Derived.Test.YtkdcacajacndmaaP6
namespace Go.Proofs.Ytkdcacajacndmaa
open Go.RowKit
section
variable {I : Type} {κ : TK I}
theorem Tr.lack_of {w w' : World} {d : Nat} {h : Hd I} {a b : List (Tr I d)} {k k' : Tr I d} (o : (Tr.node h (a ++ [k] ++ b)).ok κ w) (ok' : k'.ok κ w') (hg : k'.g = k.g) (h7 : 7 ≤ k'.n) (h16 : k'.n ≤ 16) (hs : Stp w w' k.own k'.own) :
    Tr.lack κ w' h a k' b ∧ Stp w w' (Tr.node h (a ++ [k] ++ b)).own (Tr.node h (a ++ [k'] ++ b)).own := by
  have mk : k ∈ a ++ [k] ++ b := by simp
  have dhk : Dj h.own k.own := (o.sep.1 k mk).1
  have hp := o.sep.2
  rw [List.pairwise_append, List.pairwise_append] at hp
  obtain ⟨⟨pa, pm, pam⟩, pb, pab⟩ := hp
  have hka : ∀ q ∈ a, q ∈ a ++ [k] ++ b := fun q hq => by simp [hq]
  have hkb : ∀ q ∈ b, q ∈ a ++ [k] ++ b := fun q hq => by simp [hq]
  have old : ∀ q, (q ∈ a ∨ q ∈ b) → q.ok κ w' := fun q hq => by
    have hq2 : q ∈ a ++ [k] ++ b := by rcases hq with h | h; exact hka q h; exact hkb q h
    refine (o.kid hq2).1.fr hs.fr fun x hx hc => ?_
    rcases hq with hq | hq
    · exact pam q hq k (List.mem_singleton.2 rfl) x hx hc
    · exact pab k (List.mem_append_right _ (List.mem_singleton.2 rfl)) q hq x hc hx
  have hgm : (a ++ [k'] ++ b).map Tr.g = (a ++ [k] ++ b).map Tr.g := by rw [map_mid, map_mid, hg]
  have hlen : (a ++ [k'] ++ b).length = h.xs.length + 1 := by rw [← o.shape.1]; simp
  have hhl : h.lies κ w' ((a ++ [k'] ++ b).map Tr.g) := by rw [hgm]; exact o.lies.1.fr hs.fr fun x h1 h2 => dhk x h1 h2
  have dhk' : Dj h.own k'.own := fun x h1 h2 => by
    rcases hs.new x h2 with h | h
    · exact dhk x h1 h
    · have := o.lies.1.lt h1; omega
  have hsep : (Tr.node h (a ++ [k'] ++ b)).sep := sep_seg (N := w.heap.size) (m := [k]) (m' := [k']) o.sep (fun q hq x hx => (o.kid (hka q hq)).1.lt hx) (fun q hq x hx => (o.kid (hkb q hq)).1.lt hx) (fun x hx => .inl hx) (fun q hq => by
    obtain rfl := List.mem_singleton.1 hq
    refine ⟨fun x hx => ?_, ok'.sep, dhk'⟩
    rcases hs.new x hx with h | h
    · exact .inl ⟨k, List.mem_singleton.2 rfl, h⟩
    · exact .inr (.inr h)) (List.pairwise_singleton _ _)
  refine ⟨⟨⟨hhl, fun q hq => ?_⟩, hsep, hlen, fun q hq => ?_, ok'.shape, h7, h16⟩, ⟨hs.fr.mono fun x _ hx => .inr ⟨k, mk, hx⟩, fun x hx => ?_⟩⟩
  · rcases List.mem_append.1 hq with hq | hq
    · rcases List.mem_append.1 hq with hq | hq
      · exact (old q (.inl hq)).lies
      · obtain rfl := List.mem_singleton.1 hq; exact ok'.lies
    · exact (old q (.inr hq)).lies
  · rcases List.mem_append.1 hq with hq | hq
    · exact ⟨(old q (.inl hq)).shape, (o.kid (hka q hq)).2⟩
    · exact ⟨(old q (.inr hq)).shape, (o.kid (hkb q hq)).2⟩
  · rcases hx with hx | ⟨q, hq, hx⟩
    · exact .inl (.inl hx)
    · rcases List.mem_append.1 hq with hq | hq
      · rcases List.mem_append.1 hq with hq | hq
        · exact .inl (.inr ⟨q, hka q hq, hx⟩)
        · obtain rfl := List.mem_singleton.1 hq
          rcases hs.new x hx with h | h
          · exact .inl (.inr ⟨k, mk, h⟩)
          · exact .inr h
      · exact .inl (.inr ⟨q, hkb q hq, hx⟩)
theorem Tr.lack.fr {C : Nat → Prop} {w w' : World} {d : Nat} {h : Hd I} {a b : List (Tr I d)} {k : Tr I d} (o : Tr.lack κ w h a k b) (hf : Fr C w w') (hn : ∀ x, (Tr.node h (a ++ [k] ++ b)).own x → ¬ C x) : Tr.lack κ w' h a k b :=
  ⟨Tr.lies_fr hf o.lies hn, o.sep, o.len, o.oth, o.kid⟩
/-- another item in the node itself. -/
theorem Tr.lack.setx {C : Nat → Prop} {w w' : World} {d : Nat} {h : Hd I} {a b : List (Tr I d)} {k : Tr I d} {xs' : List I} (o : Tr.lack κ w h a k b) (hf : Fr C w w') (hC : ∀ x, C x → h.own x) (hl : ({ h with xs := xs' } : Hd I).lies κ w' ((a ++ [k] ++ b).map Tr.g)) (hx : xs'.length = h.xs.length) :
    Tr.lack κ w' { h with xs := xs' } a k b :=
  ⟨⟨hl, fun q hq => Tr.lies_fr hf (o.lies.2 q hq) fun x h1 h2 => (o.sep.1 q hq).1 x (hC x h2) h1⟩, ⟨fun q hq => o.sep.1 q hq, o.sep.2⟩, o.len.trans (congrArg (· + 1) hx.symm), o.oth, o.kid⟩
end
end Go.Proofs.Ytkdcacajacndmaa
