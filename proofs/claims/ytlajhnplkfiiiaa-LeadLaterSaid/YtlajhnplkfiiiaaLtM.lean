/- Two leaders and a list of voters beside each other. No condition. -/
import Derived.Test.YtlajhnplkfiiiaaLtP
namespace Go.Proofs.Ytlajhnplkfiiiaa
open Go.RowKit Go.Maps

/-- where a leader lies. -/
structure Lq where
  g : Nat
  bp : Nat
  bt : Nat
  bv : Nat
def Lq.bl (a : Lq) : Nat → Prop := fun k => k = a.g ∨ k = a.bp ∨ k = a.bt ∨ k = a.bv
abbrev LdQ (w : World) (B : Nat) (a : Lq) (L : LdrS) : Prop := LdS w B a.g a.bp a.bt a.bv L
theorem LdQ.lt {w : World} {B : Nat} {a : Lq} {L : LdrS} (h : LdQ w B a L) {k : Nat} (hk : a.bl k) : k < w.heap.size := by
  rcases hk with rfl | rfl | rfl | rfl
  · exact h.bk.lt
  · exact h.kp.lt
  · exact h.kt.lt
  · exact h.kv.lt
theorem LdQ.since {w : World} {B : Nat} {a : Lq} {L : LdrS} (h : LdQ w B a L) {k : Nat} (hk : a.bl k) : B ≤ k := by
  rcases hk with rfl | rfl | rfl | rfl
  · exact h.b0
  · exact h.b1
  · exact h.b2
  · exact h.b3
theorem LdQ.far {w w' : World} {B : Nat} {a : Lq} {L : LdrS} {C : Nat → Prop} (h : LdQ w B a L) (hf : Fr C w w') (hn : ∀ k, a.bl k → ¬ C k) : LdQ w' B a L :=
  h.fr hf (hn _ (.inl rfl)) (hn _ (.inr (.inl rfl))) (hn _ (.inr (.inr (.inl rfl)))) (hn _ (.inr (.inr (.inr rfl))))
structure LL (W w : World) (R : Nat → Prop) (a b : Lq) (LA LB : LdrS) (vs : List Vi) : Prop where
  la : LdQ w W.heap.size a LA
  lb : LdQ w W.heap.size b LB
  grp : GrpIn W w (fun k => R k ∨ a.bl k ∨ b.bl k) vs
  ab : ∀ k, a.bl k → ¬ b.bl k
  rl : ∀ k, R k → k < w.heap.size ∧ ¬ a.bl k ∧ ¬ b.bl k
section
variable {W w w' : World} {R : Nat → Prop} {a b : Lq} {LA LB : LdrS} {vs : List Vi} (h : LL W w R a b LA LB vs)
include h
theorem LL.fr : Fr NoBlk W w := h.grp.fr
theorem LL.lts : ∀ k, R k ∨ a.bl k ∨ b.bl k → k < w.heap.size := fun k hk => by
  rcases hk with hk | hk | hk
  · exact (h.rl k hk).1
  · exact h.la.lt hk
  · exact h.lb.lt hk
theorem LL.nofr (hf : Fr NoBlk w w') : LL W w' R a b LA LB vs :=
  ⟨h.la.nofr hf, h.lb.nofr hf, h.grp.nofr hf, h.ab, fun k hk => ⟨Nat.lt_of_lt_of_le (h.rl k hk).1 hf.size, (h.rl k hk).2⟩⟩
theorem LL.more {u : Vi} (hu : VoT w' w.heap.size u.g u.gt u.O u.p u.xs) (hf : Fr NoBlk w w') : LL W w' R a b LA LB (vs ++ [u]) :=
  ⟨h.la.nofr hf, h.lb.nofr hf, h.grp.more hu hf h.lts, h.ab, fun k hk => ⟨Nat.lt_of_lt_of_le (h.rl k hk).1 hf.size, (h.rl k hk).2⟩⟩
theorem LL.grown {R' : Nat → Prop} (hf : Fr R w w') (hw : Fr NoBlk W w') (hR : ∀ k, R' k → R k ∨ w.heap.size ≤ k) (hl : ∀ k, R' k → k < w'.heap.size) : LL W w' R' a b LA LB vs := by
  refine ⟨h.la.far hf fun k hk e => (h.rl k e).2.1 hk, h.lb.far hf fun k hk e => (h.rl k e).2.2 hk, h.grp.grown (hf.mono fun k _ e => .inl e) hw (fun k hk => ?_), h.ab, fun k hk => ⟨hl k hk, ?_, ?_⟩⟩
  · rcases hk with hk | hk
    · exact (hR k hk).imp (fun e => .inl e) id
    · exact .inl (.inr hk)
  · intro e
    rcases hR k hk with e2 | e2
    · exact (h.rl k e2).2.1 e
    · have := h.la.lt e; omega
  · intro e
    rcases hR k hk with e2 | e2
    · exact (h.rl k e2).2.2 e
    · have := h.lb.lt e; omega
theorem LL.turned {i : Nat} {v u : Vi} (hv : vs[i]? = some v) (hu : VoT w' W.heap.size u.g u.gt u.O u.p u.xs) (hf : Fr v.bl w w') (hb : ∀ k, u.bl k → v.bl k ∨ w.heap.size ≤ k) : LL W w' R a b LA LB (vs.set i u) := by
  have hm := List.mem_of_getElem? hv
  exact ⟨h.la.far hf fun k hk e => h.grp.row v hm k e (.inr (.inl hk)), h.lb.far hf fun k hk e => h.grp.row v hm k e (.inr (.inr hk)), h.grp.turned hv hu hf hb h.lts, h.ab, fun k hk => ⟨Nat.lt_of_lt_of_le (h.rl k hk).1 hf.size, (h.rl k hk).2⟩⟩
theorem LL.ldA {LA' : LdrS} (hl : LdQ w' W.heap.size a LA') (hf : Fr a.bl w w') : LL W w' R a b LA' LB vs :=
  ⟨hl, h.lb.far hf fun k hk e => h.ab k e hk, h.grp.grown (hf.mono fun k _ e => .inr (.inl e)) (h.fr.step hf fun k hk e => by have := h.la.since e; omega) (fun k hk => .inl hk), h.ab, fun k hk => ⟨Nat.lt_of_lt_of_le (h.rl k hk).1 hf.size, (h.rl k hk).2⟩⟩
theorem LL.ldB {LB' : LdrS} (hl : LdQ w' W.heap.size b LB') (hf : Fr b.bl w w') : LL W w' R a b LA LB' vs :=
  ⟨h.la.far hf fun k hk e => h.ab k hk e, hl, h.grp.grown (hf.mono fun k _ e => .inr (.inr e)) (h.fr.step hf fun k hk e => by have := h.lb.since e; omega) (fun k hk => .inl hk), h.ab, fun k hk => ⟨Nat.lt_of_lt_of_le (h.rl k hk).1 hf.size, (h.rl k hk).2⟩⟩
end
theorem own_from {w : World} {base : Nat} {e : TypeId} {size n : Nat} {A : Option Addr} {m c : Nat} {xs : List Value} (h : w.ownsRow base e size (.slice A m c) n xs) : ∀ b, ablk A b → base ≤ b := by
  rintro b ⟨x, rfl, rfl⟩
  rcases h.2 with ⟨hv, _⟩ | ⟨g, cap, cur, hv, hb, _⟩
  · cases hv
  · injection hv with hv _ _
    injection hv with hv
    subst hv
    exact hb
/-- votes of a voter as a leader reads them. -/
theorem vals_one (v : VaT) : valsT [(v.slot, v)] = vtsS [(v.slot, v.bal, bstr v.val)] := rfl
def Xs (b : Bool) : List ItT := if b then [(0, ⟨0, 1, [99, 104, 111, 115, 101, 110]⟩)] else []
theorem xs_tells (t k : Nat) : valsT (geL ltI 0 (Xs (tkb t k))) = vtsS (tells t k) ∧ (geL ltI 0 (Xs (tkb t k))).length = (tells t k).length ∧ (tells t k).length ≤ 1 := by
  unfold tells Xs
  cases tkb t k <;> exact ⟨rfl, rfl, by decide⟩
/-- what is known between rounds. -/
structure J (n t k : Nat) (p1 : Nat → Prop) (vs : List Vi) (A : Option Addr) (c : Nat) (a b : Lq) (LA LB : LdrS) (W w : World) : Prop where
  ll : LL W w (fun r => (Value.slice A vs.length c).ownBlock = some r) a b LA LB vs
  row : w.ownsRow W.heap.size 53 1 (.slice A vs.length c) vs.length (vs.map fun v => .pointer (some ⟨v.g, 0, none⟩))
  len : vs.length = n
  xs : ∀ j v, vs[j]? = some v → v.xs = Xs (decide (j < k) && tkb t j) ∧ p1 v.p
section
variable {n t k : Nat} {p1 : Nat → Prop} {vs : List Vi} {A : Option Addr} {c : Nat} {a b : Lq} {LA LB : LdrS} {W w w' : World} (h : J n t k p1 vs A c a b LA LB W w)
include h
theorem J.own : ∀ r, (Value.slice A vs.length c).ownBlock = some r → r < w.heap.size := fun _ hr => (own_blk h.row hr).2
theorem J.nofr (hf : Fr NoBlk w w') : J n t k p1 vs A c a b LA LB W w' := ⟨h.ll.nofr hf, own_fr h.row hf (fun _ _ e => e), h.len, h.xs⟩
theorem J.ldA {LA' : LdrS} (hl : LdQ w' W.heap.size a LA') (hf : Fr a.bl w w') : J n t k p1 vs A c a b LA' LB W w' := ⟨h.ll.ldA hl hf, own_fr h.row hf (fun r hr e => (h.ll.rl r hr).2.1 e), h.len, h.xs⟩
theorem J.ldB {LB' : LdrS} (hl : LdQ w' W.heap.size b LB') (hf : Fr b.bl w w') : J n t k p1 vs A c a b LA LB' W w' := ⟨h.ll.ldB hl hf, own_fr h.row hf (fun r hr e => (h.ll.rl r hr).2.2 e), h.len, h.xs⟩
theorem J.turned {k' : Nat} {i : Nat} {v u : Vi} (hv : vs[i]? = some v) (hg : u.g = v.g) (hu : VoT w' W.heap.size u.g u.gt u.O u.p u.xs) (hf : Fr v.bl w w') (hb : ∀ r, u.bl r → v.bl r ∨ w.heap.size ≤ r) (p2 : Nat → Prop) (hx : u.xs = Xs (decide (i < k') && tkb t i) ∧ p2 u.p)
    (ho : ∀ j v, j ≠ i → vs[j]? = some v → v.xs = Xs (decide (j < k') && tkb t j) ∧ p2 v.p) : J n t k' p2 (vs.set i u) A c a b LA LB W w' := by
  have hi := (List.getElem?_eq_some_iff.1 hv).1
  have hl : (vs.set i u).length = vs.length := List.length_set
  have hmap : (vs.set i u).map (fun v => Value.pointer (some ⟨v.g, 0, none⟩)) = vs.map fun v => Value.pointer (some ⟨v.g, 0, none⟩) := by
    rw [List.map_set]
    refine List.ext_getElem? fun j => ?_
    by_cases e : j = i
    · subst e
      rw [List.getElem?_set_self (by rw [List.length_map]; exact hi), List.getElem?_map, hv, hg]; rfl
    · rw [List.getElem?_set_ne (fun x => e x.symm)]
  refine ⟨by rw [hl]; exact h.ll.turned hv hu hf hb, ?_, hl.trans h.len, fun j x hj => ?_⟩
  · rw [hl, hmap]
    exact own_fr h.row hf fun r hr e => h.ll.grp.row _ (List.mem_of_getElem? hv) r e (.inl hr)
  · by_cases e : j = i
    · subst e
      rw [List.getElem?_set_self hi] at hj
      injection hj with hj
      subst hj
      exact hx
    · rw [List.getElem?_set_ne (fun x => e x.symm)] at hj
      exact ho j x e hj
theorem J.weak {p2 : Nat → Prop} (hp : ∀ x, p1 x → p2 x) : J n t k p2 vs A c a b LA LB W w := ⟨h.ll, h.row, h.len, fun j v hj => ⟨(h.xs j v hj).1, hp _ (h.xs j v hj).2⟩⟩
theorem J.skip (ht : tkb t k = false) : J n t (k + 1) p1 vs A c a b LA LB W w := ⟨h.ll, h.row, h.len, fun j v hj => by
  obtain ⟨e1, e2⟩ := h.xs j v hj
  refine ⟨e1.trans ?_, e2⟩
  by_cases e : j = k
  · subst e; rw [ht, Bool.and_false, Bool.and_false]
  · rw [decide_eq_decide.2 (show j < k ↔ j < k + 1 by omega)]⟩
/-- one more voter, and its row. -/
theorem J.push {u : Vi} {w1 w2 w3 : World} {A4 : Option Addr} {c4 : Nat} (hk : k = 0) (hu : VoT w1 w.heap.size u.g u.gt u.O u.p u.xs) (hx : u.xs = []) (hp : p1 u.p) (hf : Fr NoBlk w w1) (hfa : Fr NoBlk w1 w2)
    (ho : w3.ownsRow W.heap.size 53 1 (.slice A4 (n + 1) c4) (n + 1) ((vs.map fun v => .pointer (some ⟨v.g, 0, none⟩)) ++ [.pointer (some ⟨u.g, 0, none⟩)])) (hg : w2.grownBy w3 (Value.slice A n c).ownBlock)
    (hb : (Value.slice A4 (n + 1) c4).ownBlock = (Value.slice A n c).ownBlock ∨ (Value.slice A4 (n + 1) c4).ownBlock = some w2.heap.size) : J (n + 1) t k p1 (vs ++ [u]) A4 c4 a b LA LB W w3 := by
  have hl : (vs ++ [u]).length = n + 1 := by rw [List.length_append, h.len]; rfl
  have hm := (h.ll.more hu hf).nofr hfa
  have hro : ∀ r, (Value.slice A n c).ownBlock = some r → W.heap.size ≤ r := fun r hr => (own_blk h.row (by rw [h.len]; exact hr)).1
  refine ⟨?_, by rw [hl, List.map_append]; exact ho, hl, fun j v hj => ?_⟩
  · rw [hl]
    refine hm.grown ((Fr.ofGrown hg).mono fun r _ e => by rw [h.len]; exact e.symm) (hm.fr.grown hg fun r hr hlt => by have := hro r hr; omega) (fun r hr => ?_) (fun r hr => (own_blk ho hr).2)
    rcases hb with e | e
    · rw [e] at hr; left; rw [h.len]; exact hr
    · rw [e] at hr; injection hr with hr; right; omega
  · by_cases e : j < n
    · rw [List.getElem?_append_left (by rw [h.len]; exact e)] at hj
      exact h.xs j v hj
    · have hjl := (List.getElem?_eq_some_iff.1 hj).1
      have ej : j = n := by omega
      subst ej
      rw [List.getElem?_append_right (by rw [h.len]; exact Nat.le_refl _), h.len, Nat.sub_self] at hj
      injection hj with hj
      subst hj
      exact ⟨by rw [hx, hk, decide_eq_false (Nat.not_lt_zero _)]; rfl, hp⟩
/-- where a voter lies. -/
theorem J.at_ {i : Nat} {v : Vi} (hv : vs[i]? = some v) : ∃ b o, A = some ⟨b, o, none⟩ ∧ w.cell? ⟨b, o + i, none⟩ = some (.pointer (some ⟨v.g, 0, none⟩)) :=
  (own_cells h.row).1.at_ (k := i) (v := .pointer (some ⟨v.g, 0, none⟩)) (by rw [List.getElem?_map, hv]; rfl)
theorem J.vo {i : Nat} {v : Vi} (hv : vs[i]? = some v) : VoT w W.heap.size v.g v.gt v.O v.p v.xs := h.ll.grp.each v (List.mem_of_getElem? hv)
end
end Go.Proofs.Ytlajhnplkfiiiaa
