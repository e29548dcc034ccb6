/- A node in memory whose items, or whose children, are told anew. No condition. -/
import Derived.Test.YtkdcacajacndmaaP4
import Derived.Test.YtkdcacajacndmaaN1R
namespace Go.Proofs.Ytkdcacajacndmaa
open Go.RowKit
section
variable {I : Type} {κ : TK I}
structure TK.apart (κ : TK I) : Prop where
  ni : κ.NT ≠ κ.IT
  np : κ.NT ≠ κ.PT
  ip : κ.IT ≠ κ.PT
theorem Hd.setI {w w1 : World} {X : Hd I} {ps : List Nat} (ha : κ.apart) (hl : X.lies κ w ps) {A' : Option Addr} {c' n' : Nat} {xs' : List I} (hn : n' = xs'.length) (hr : RowW w1 0 κ.IT κ.size (.slice A' n' c') n' (κ.its xs')) (hf : Fr (ablk X.A) w w1) (ho : ∀ b, ablk A' b → ablk X.A b ∨ w.heap.size ≤ b) :
    ({ X with A := A', c := c', xs := xs' } : Hd I).lies κ (w1.setCell ⟨X.g, 0, none⟩ (.slice A' n' c')) ps ∧ Fr X.own w (w1.setCell ⟨X.g, 0, none⟩ (.slice A' n' c')) ∧ ∀ b, ({ X with A := A', c := c', xs := xs' } : Hd I).own b → X.own b ∨ w.heap.size ≤ b := by
  subst hn
  obtain ⟨b1, b2, b3⟩ := hl
  have hgA : ¬ ablk X.A X.g := b2.ne_ b1 ha.ni
  have hgl := b1.lt
  have hfs : Fr (fun i => i = X.g) w1 (w1.setCell ⟨X.g, 0, none⟩ (.slice A' xs'.length c')) := (Fr.refl (fun i => i = X.g) w1).setCell (p := ⟨X.g, 0, none⟩) (fun _ => rfl) _
  refine ⟨⟨?_, ?_, ?_⟩, ?_, ?_⟩
  · have h := (b1.fr hf hgA).put 0 (.slice A' xs'.length c')
    simpa using h
  · refine hr.fr hfs fun k hk e => ?_
    rcases ho k (own_ablk hk) with h | h
    · exact hgA (e ▸ h)
    · omega
  · refine (b3.fr hf fun k hk h => ?_).fr hfs fun k hk e => ?_
    · obtain ⟨cur, h1⟩ := b3.blk' hk
      exact b2.ne_ h1 ha.ip.symm h
    · obtain ⟨cur, h1⟩ := b3.blk' hk
      exact b1.apart h1 ha.np e.symm
  · exact (hf.mono fun _ _ h => .inr (.inl h)).step hfs fun _ _ e => .inl e
  · intro b hb
    rcases hb with hb | hb | hb
    · exact .inl (.inl hb)
    · rcases ho b hb with h | h
      · exact .inl (.inr (.inl h))
      · exact .inr h
    · exact .inl (.inr (.inr hb))
theorem Hd.setP {w w1 : World} {X : Hd I} {ps : List Nat} (ha : κ.apart) (hl : X.lies κ w ps) {B' : Option Addr} {e' n' : Nat} {ps' : List Nat} (hn : n' = ps'.length) (hr : RowW w1 0 κ.PT 1 (.slice B' n' e') n' (ps'.map ptr)) (hf : Fr (ablk X.B) w w1) (ho : ∀ b, ablk B' b → ablk X.B b ∨ w.heap.size ≤ b) :
    ({ X with B := B', e := e' } : Hd I).lies κ (w1.setCell ⟨X.g, 1, none⟩ (.slice B' n' e')) ps' ∧ Fr X.own w (w1.setCell ⟨X.g, 1, none⟩ (.slice B' n' e')) ∧ ∀ b, ({ X with B := B', e := e' } : Hd I).own b → X.own b ∨ w.heap.size ≤ b := by
  subst hn
  obtain ⟨b1, b2, b3⟩ := hl
  have hgB : ¬ ablk X.B X.g := b3.ne_ b1 ha.np
  have hgl := b1.lt
  have hfs : Fr (fun i => i = X.g) w1 (w1.setCell ⟨X.g, 1, none⟩ (.slice B' ps'.length e')) := (Fr.refl (fun i => i = X.g) w1).setCell (p := ⟨X.g, 1, none⟩) (fun _ => rfl) _
  refine ⟨⟨?_, ?_, ?_⟩, ?_, ?_⟩
  · have h := (b1.fr hf hgB).put 1 (.slice B' ps'.length e')
    simpa using h
  · refine (b2.fr hf fun k hk h => ?_).fr hfs fun k hk e => ?_
    · obtain ⟨cur, h1⟩ := b2.blk' hk
      exact b3.ne_ h1 ha.ip h
    · obtain ⟨cur, h1⟩ := b2.blk' hk
      exact b1.apart h1 ha.ni e.symm
  · refine hr.fr hfs fun k hk e => ?_
    rcases ho k (own_ablk hk) with h | h
    · exact hgB (e ▸ h)
    · omega
  · exact (hf.mono fun _ _ h => .inr (.inr h)).step hfs fun _ _ e => .inl e
  · intro b hb
    rcases hb with hb | hb | hb
    · exact .inl (.inl hb)
    · exact .inl (.inr (.inl hb))
    · rcases ho b hb with h | h
      · exact .inl (.inr (.inr h))
      · exact .inr h
theorem Hd.lies.len {w : World} {X : Hd I} {ps : List Nat} (h : X.lies κ w ps) : ps.length ≤ X.e ∧ X.xs.length ≤ X.c := by
  obtain ⟨_, _, e1, h1, _⟩ := h.2.1.form
  obtain ⟨_, _, e2, h2, _⟩ := h.2.2.form
  injection e1 with a b c
  injection e2 with a' b' c'
  exact ⟨c' ▸ h2, c ▸ h1⟩
end
end Go.Proofs.Ytkdcacajacndmaa
