/- A child that lacks an item is filled. Conditions: as the tree's shape has them. -/
import Derived.Test.YtkdcacajacndmaaN11R
import Derived.Test.YtkdcacajacndmaaP6

namespace Go.Proofs.Ytkdcacajacndmaa
open Go.RowKit
def FillRPost (w : World) {d : Nat} (h : Hd ItR) (ks : List (Tr ItR d)) (p : Prop) (e : Ending) (w' : World) : Prop :=
  (∃ v, e = .returned v) ∧ ∃ (h' : Hd ItR) (ks' : List (Tr ItR d)), (Tr.node h' ks').ok tkR w' ∧ (Tr.node h' ks').flat = (Tr.node h ks).flat ∧ h'.g = h.g ∧ h'.xs.length ≤ h.xs.length ∧ h.xs.length ≤ h'.xs.length + 1 ∧ Stp w w' (Tr.node h ks).own (Tr.node h' ks').own ∧ (p → h'.xs.length = h.xs.length)
theorem FillRPost.imp {w w' : World} {d : Nat} {h : Hd ItR} {ks : List (Tr ItR d)} {p q : Prop} {e : Ending} (hp : FillRPost w h ks p e w') (hq : q → p) : FillRPost w h ks q e w' := by
  obtain ⟨h1, h', ks', h2, h3, h4, h5, h6, h7, h8⟩ := hp
  exact ⟨h1, h', ks', h2, h3, h4, h5, h6, h7, fun h => h8 (hq h)⟩
theorem two_ptrs {I : Type} {d : Nat} {l r : Tr I d} (hl : l.shape) (hr : r.shape) : (l.ptrs = [] ∧ r.ptrs = []) ∨ (l.ptrs.length = l.hd.xs.length + 1 ∧ r.ptrs.length = r.hd.xs.length + 1) := by
  cases d with
  | zero => exact .inl ⟨rfl, rfl⟩
  | succ d =>
    obtain ⟨lh, lks⟩ := l
    obtain ⟨rh, rks⟩ := r
    exact .inr ⟨(List.length_map _).trans hl.1, (List.length_map _).trans hr.1⟩
theorem last_of {α : Type} {xs : List α} (h : 0 < xs.length) : ∃ li z, xs = li ++ [z] := by
  refine ⟨xs.dropLast, xs.getLast (by intro e; rw [e] at h; cases h), ?_⟩
  exact (List.dropLast_concat_getLast _).symm
/-- what is asked of two neighbours among a node's children. -/
structure PairR (w : World) {d : Nat} (h : Hd ItR) (a : List (Tr ItR d)) (l r : Tr ItR d) (b : List (Tr ItR d)) : Prop where
  lies : (Tr.node h (a ++ [l, r] ++ b)).lies tkR w
  sep : (Tr.node h (a ++ [l, r] ++ b)).sep
  len : (a ++ [l, r] ++ b).length = h.xs.length + 1
  oth : ∀ q ∈ a ++ b, q.shape ∧ 8 ≤ q.n ∧ q.n ≤ 16
  ls : l.shape
  rs : r.shape
  hn : h.xs.length ≤ 16
  ln : l.n ≤ 16
  rn : r.n ≤ 16
theorem PairR.facts {w : World} {d : Nat} {h : Hd ItR} {a b : List (Tr ItR d)} {l r : Tr ItR d} (o : PairR w h a l r b) :
    (∃ m, h.xs[a.length]? = some m) ∧ ((a ++ [l, r] ++ b).map Tr.g)[a.length]? = some l.hd.g ∧ ((a ++ [l, r] ++ b).map Tr.g)[a.length + 1]? = some r.hd.g ∧ l.hd.lies tkR w l.ptrs ∧ r.hd.lies tkR w r.ptrs ∧ Dj h.own l.hd.own ∧ Dj h.own r.hd.own ∧ Dj l.hd.own r.hd.own ∧ ((a ++ [l, r] ++ b).map Tr.g).length ≤ 100 := by
  have hl2 := o.len
  simp only [List.length_append, List.length_cons, List.length_nil] at hl2
  have ml : l ∈ a ++ [l, r] ++ b := by simp
  have mr : r ∈ a ++ [l, r] ++ b := by simp
  have hp := o.sep.2
  rw [List.pairwise_append, List.pairwise_append] at hp
  have dlr : Dj l.own r.own := (List.pairwise_cons.1 hp.1.2.1).1 r (List.mem_singleton.2 rfl)
  have e3 : (a ++ [l, r] ++ b).map Tr.g = a.map Tr.g ++ (l.g :: r.g :: b.map Tr.g) := by simp
  have hag : (a.map Tr.g).length = a.length := List.length_map _
  refine ⟨⟨_, List.getElem?_eq_getElem (by omega)⟩, ?_, ?_, Tr.lies_hd (o.lies.2 l ml), Tr.lies_hd (o.lies.2 r mr), (o.sep.1 l ml).1.mono (fun _ h => h) fun _ h => l.own_hd h, (o.sep.1 r mr).1.mono (fun _ h => h) fun _ h => r.own_hd h, dlr.mono (fun _ h => l.own_hd h) fun _ h => r.own_hd h, ?_⟩
  · rw [e3, ← hag, List.getElem?_append_right (Nat.le_refl _), Nat.sub_self]; rfl
  · rw [e3, ← hag, List.getElem?_append_right (by omega), Nat.add_sub_cancel_left]; rfl
  · rw [List.length_map, o.len]; have := o.hn; omega
theorem fillRR_any {w : World} {d : Nat} {h : Hd ItR} {a b : List (Tr ItR d)} {l r : Tr ItR d} (o : PairR w h a l r b) (h9 : 9 ≤ l.n) (h7 : 7 ≤ r.n) (h15 : r.n ≤ 15) :
    Calls Try.prog 98 #[.pointer (some ⟨h.g, 0, none⟩), .int .i64 a.length] w (FillRPost w h (a ++ [l, r] ++ b) False) := by
  obtain ⟨⟨m, hm⟩, hi, hi1, ll, rl, d1, d2, d3, hps⟩ := o.facts
  have hln : l.hd.xs.length ≤ 16 := o.ln
  have hrn : r.hd.xs.length ≤ 16 := o.rn
  have h9' : 9 ≤ l.hd.xs.length := h9
  have h7' : 7 ≤ r.hd.xs.length := h7
  have h15' : r.hd.xs.length ≤ 15 := h15
  have hhn := o.hn
  obtain ⟨li, z, hlz⟩ := last_of (xs := l.hd.xs) (by omega)
  have hlk : l.hd.xs.length = li.length + 1 := by rw [hlz, List.length_append]; rfl
  refine (shRR_any w h l.hd r.hd _ l.ptrs r.ptrs a.length li z m o.lies.1 ll rl hi hi1 hm hlz (by omega) (by omega) (by omega) (two_ptrs o.ls o.rs) d1 d2 d3 hps).mono ?_
  rintro e w' ⟨hv, l', r', hh', hlx, hl', hlg, hlo, hrx, hr', hrg, hro, hdd, hf⟩
  have hq : (l.ptrs.take (l.ptrs.length - 1)).length = 0 ∧ (l.ptrs.drop (l.ptrs.length - 1) ++ r.ptrs).length = 0 ∨ (l.ptrs.take (l.ptrs.length - 1)).length = l'.xs.length + 1 ∧ (l.ptrs.drop (l.ptrs.length - 1) ++ r.ptrs).length = r'.xs.length + 1 := by
    rcases two_ptrs o.ls o.rs with ⟨p1, p2⟩ | ⟨p1, p2⟩
    · rw [p1, p2]; exact .inl ⟨rfl, rfl⟩
    · refine .inr ⟨?_, ?_⟩
      · rw [List.length_take, hlx]; omega
      · rw [List.length_append, List.length_drop, hrx, List.length_cons]; omega
  obtain ⟨ks', k1, k2, k3⟩ := Tr.shifted o.lies o.sep o.len o.oth o.ls o.rs hm (z := z) (by rw [hlx, hrx, hlz]; simp) (by rw [← List.append_assoc, List.take_append_drop]) hq hl' hr' hlg hrg hlo hro hdd hh' hf (by rw [hlx]; omega) (by rw [hrx, List.length_cons]; omega)
  exact ⟨hv, _, ks', k1, k2, rfl, by show (h.xs.set _ _).length ≤ _; rw [List.length_set]; exact Nat.le_refl _, by show _ ≤ (h.xs.set _ _).length + 1; rw [List.length_set]; exact Nat.le_succ _, k3, fun h => h.elim⟩
theorem fillLR_any {w : World} {d : Nat} {h : Hd ItR} {a b : List (Tr ItR d)} {l r : Tr ItR d} (o : PairR w h a l r b) (h9 : 9 ≤ r.n) (h7 : 7 ≤ l.n) (h15 : l.n ≤ 15) :
    Calls Try.prog 99 #[.pointer (some ⟨h.g, 0, none⟩), .int .i64 a.length] w (FillRPost w h (a ++ [l, r] ++ b) False) := by
  obtain ⟨⟨m, hm⟩, hi, hi1, ll, rl, d1, d2, d3, hps⟩ := o.facts
  have hln : l.hd.xs.length ≤ 16 := o.ln
  have hrn : r.hd.xs.length ≤ 16 := o.rn
  have h9' : 9 ≤ r.hd.xs.length := h9
  have h7' : 7 ≤ l.hd.xs.length := h7
  have h15' : l.hd.xs.length ≤ 15 := h15
  have hhn := o.hn
  obtain ⟨z, ri, hrz⟩ : ∃ z ri, r.hd.xs = z :: ri := by
    cases hc : r.hd.xs with
    | nil => rw [hc] at h9'; simp at h9'
    | cons z t => exact ⟨z, t, rfl⟩
  have hrk : r.hd.xs.length = ri.length + 1 := by rw [hrz]; rfl
  refine (shLR_any w h l.hd r.hd _ l.ptrs r.ptrs a.length ri z m o.lies.1 ll rl hi hi1 hm hrz (by omega) (by omega) (by omega) (two_ptrs o.ls o.rs) d1 d2 d3 hps).mono ?_
  rintro e w' ⟨hv, l', r', hh', hlx, hl', hlg, hlo, hrx, hr', hrg, hro, hdd, hf⟩
  have hq : (l.ptrs ++ r.ptrs.take 1).length = 0 ∧ (r.ptrs.drop 1).length = 0 ∨ (l.ptrs ++ r.ptrs.take 1).length = l'.xs.length + 1 ∧ (r.ptrs.drop 1).length = r'.xs.length + 1 := by
    rcases two_ptrs o.ls o.rs with ⟨p1, p2⟩ | ⟨p1, p2⟩
    · rw [p1, p2]; exact .inl ⟨rfl, rfl⟩
    · refine .inr ⟨?_, ?_⟩
      · rw [List.length_append, List.length_take, hlx, List.length_append, List.length_singleton]; omega
      · rw [List.length_drop, hrx]; omega
  obtain ⟨ks', k1, k2, k3⟩ := Tr.shifted o.lies o.sep o.len o.oth o.ls o.rs hm (z := z) (by rw [hlx, hrx, hrz]; simp) (by rw [List.append_assoc, List.take_append_drop]) hq hl' hr' hlg hrg hlo hro hdd hh' hf (by rw [hlx, List.length_append, List.length_singleton]; omega) (by rw [hrx]; omega)
  exact ⟨hv, _, ks', k1, k2, rfl, by show (h.xs.set _ _).length ≤ _; rw [List.length_set]; exact Nat.le_refl _, by show _ ≤ (h.xs.set _ _).length + 1; rw [List.length_set]; exact Nat.le_succ _, k3, fun h => h.elim⟩
theorem fillJR_any {w : World} {d : Nat} {h : Hd ItR} {a b : List (Tr ItR d)} {l r : Tr ItR d} (o : PairR w h a l r b) (hlr : l.n + r.n = 15) :
    Calls Try.prog 100 #[.pointer (some ⟨h.g, 0, none⟩), .int .i64 a.length] w (FillRPost w h (a ++ [l, r] ++ b) False) := by
  obtain ⟨⟨m, hm⟩, hi, hi1, ll, rl, d1, d2, d3, hps⟩ := o.facts
  have hln : l.hd.xs.length ≤ 16 := o.ln
  have hrn : r.hd.xs.length ≤ 16 := o.rn
  have hlr' : l.hd.xs.length + r.hd.xs.length = 15 := hlr
  have hhn := o.hn
  have hml := (List.getElem?_eq_some_iff.1 hm).1
  have hlp : l.ptrs.length ≤ 18 ∧ r.ptrs.length ≤ 18 := by
    rcases two_ptrs o.ls o.rs with ⟨p1, p2⟩ | ⟨p1, p2⟩
    · rw [p1, p2]; exact ⟨Nat.zero_le _, Nat.zero_le _⟩
    · omega
  refine (joiR_any w h l.hd r.hd _ l.ptrs r.ptrs a.length m o.lies.1 ll rl hi hi1 hm (by omega) (by omega) (by omega) hlp.1 hlp.2 d1 d2 d3 hps).mono ?_
  rintro e w' ⟨hv, h', l', hhx, hh', hhg, hho, hlx, hl', hlg, hlo, _, hf⟩
  obtain ⟨ks', k1, k2, k3⟩ := Tr.merged o.lies o.sep o.len o.oth o.ls o.rs hm hlx hl' hlg hlo hhx hh' hho hf (by rw [hlx, List.length_append, List.length_cons]; omega)
  exact ⟨hv, h', ks', k1, k2, hhg, by rw [hhx, List.length_append, List.length_take, List.length_drop]; omega, by rw [hhx, List.length_append, List.length_take, List.length_drop]; omega, k3, fun h => h.elim⟩
end Go.Proofs.Ytkdcacajacndmaa
