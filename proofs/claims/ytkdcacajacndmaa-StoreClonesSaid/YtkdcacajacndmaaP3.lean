/- What an iterator tells of a tree; what stays as it is while some blocks are kept. No condition. -/
import Derived.Test.YtkdcacajacndmaaP2
namespace Go.Proofs.Ytkdcacajacndmaa
open Go.RowKit
/-- the blocks of K lie as they lay. -/
def Keep (K : Nat → Prop) (W W' : World) : Prop := ∀ k, K k → W'.heap[k]? = W.heap[k]?
theorem Keep.t {K : Nat → Prop} {A B C : World} (h : Keep K A B) (k : Keep K B C) : Keep K A C := fun i hi => (k i hi).trans (h i hi)
theorem Keep.rfl_ (K : Nat → Prop) (A : World) : Keep K A A := fun _ _ => rfl
theorem Keep.cell {K : Nat → Prop} {W W' : World} (h : Keep K W W') {p : Addr} (hp : K p.block) : W'.cell? p = W.cell? p := World.cell?_of_block (h _ hp)
theorem Fr.keep {C K : Nat → Prop} {w w' : World} (h : Fr C w w') (hK : ∀ k, K k → k < w.heap.size ∧ ¬ C k) : Keep K w w' := fun k hk => h.block k (hK k hk).1 (hK k hk).2
section
variable {K : Nat → Prop} {w w' : World}
theorem Bk.kept {g : Nat} {t : TypeId} {cs : Array Value} (h : Bk w g t cs) (hk : Keep K w w') (hg : K g) : Bk w' g t cs := (hk g hg).trans h
theorem Rd.kept {A : Option Addr} {xs : List Value} (h : Rd w A xs) (hk : Keep K w w') (hA : 0 < xs.length → ∀ b, ablk A b → K b) : Rd w' A xs := fun hx => (h.keep fun _ _ hb => hk.cell (hA hx _ hb)) hx
theorem RowW.kept {base : Nat} {e : TypeId} {size n c : Nat} {A : Option Addr} {xs : List Value} (h : RowW w base e size (.slice A n c) n xs) (hk : Keep K w w') (hA : ∀ b, ablk A b → K b) : RowW w' base e size (.slice A n c) n xs := by
  refine ⟨h.1, h.2.1, ?_⟩
  rcases h.2.2 with h2 | ⟨g, cap, cur, hv, hb, hg, r⟩
  · exact .inl h2
  · refine .inr ⟨g, cap, cur, hv, hb, Bk.kept hg hk (hA g ?_), r⟩
    injection hv with hv
    exact ⟨_, hv, rfl⟩
section
variable {I : Type} {κ : TK I}
theorem Hd.lies.kept {h : Hd I} {ps : List Nat} (hl : h.lies κ w ps) (hk : Keep K w w') (hn : ∀ b, h.own b → K b) : h.lies κ w' ps :=
  ⟨hl.1.kept hk (hn _ (.inl rfl)), hl.2.1.kept hk fun k hb => hn k (.inr (.inl hb)), hl.2.2.kept hk fun k hb => hn k (.inr (.inr hb))⟩
theorem Tr.lies_kept (hk : Keep K w w') : ∀ {d : Nat} {t : Tr I d}, t.lies κ w → (∀ b, t.own b → K b) → t.lies κ w'
  | 0, .leaf _, hl, hn => Hd.lies.kept hl hk hn
  | _ + 1, .node _ _, hl, hn => ⟨hl.1.kept hk fun b hb => hn b (.inl hb), fun k hk' => Tr.lies_kept hk (hl.2 k hk') fun b hb => hn b (.inr ⟨k, hk', hb⟩)⟩
theorem weave_post (k : List I) (ks : List (List I)) (xs : List I) (h : xs.length = ks.length) : weave (k :: ks) xs = k ++ postW xs ks := by
  have := weave_mid [] [] rfl k xs ks h
  simpa [preW] using this
theorem postW_rep (xs : List I) : postW xs (List.replicate xs.length []) = xs := by
  induction xs with
  | nil => rfl
  | cons x t ih =>
    show x :: ([] ++ postW t (List.replicate t.length [])) = x :: t
    rw [ih]; rfl
theorem postW_split (xs : List I) (L : List (List I)) (i : Nat) {x : I} {k : List I} (hx : xs[i]? = some x) (hk : L[i]? = some k) : postW xs L = postW (xs.take i) (L.take i) ++ x :: k ++ postW (xs.drop (i + 1)) (L.drop (i + 1)) := by
  induction xs generalizing L i with
  | nil => cases hx
  | cons y t ih =>
    cases L with
    | nil => cases hk
    | cons l r =>
      cases i with
      | zero =>
        injection hx with hx
        injection hk with hk
        subst hx hk
        simp [postW]
      | succ i =>
        show y :: l ++ postW t r = (y :: l ++ postW (t.take i) (r.take i)) ++ x :: k ++ postW (t.drop (i + 1)) (r.drop (i + 1))
        rw [ih r i hx hk]
        simp
theorem postW_snoc (xs : List I) (L : List (List I)) (i : Nat) {x : I} {k : List I} (hx : xs[i]? = some x) (hk : L[i]? = some k) : postW (xs.take (i + 1)) (L.take (i + 1)) = postW (xs.take i) (L.take i) ++ x :: k := by
  have h := postW_split (xs.take (i + 1)) (L.take (i + 1)) i (by rw [List.getElem?_take, if_pos (by omega)]; exact hx) (by rw [List.getElem?_take, if_pos (by omega)]; exact hk)
  rw [h, List.take_take, List.take_take, Nat.min_eq_left (by omega), List.drop_take, List.drop_take, Nat.sub_self]
  simp [postW]
theorem postW_pre (xs : List I) (L : List (List I)) (i : Nat) {x : I} {k q : List I} (hx : xs[i]? = some x) (hk : L[i]? = some k) (hq : q <+: k) : postW (xs.take i) (L.take i) ++ x :: q <+: postW xs L := by
  rw [postW_split xs L i hx hk, List.append_assoc]
  refine (List.prefix_append_right_inj _).2 ?_
  obtain ⟨r, rfl⟩ := hq
  exact ⟨r ++ postW (xs.drop (i + 1)) (L.drop (i + 1)), by simp⟩
theorem postW_len (xs : List I) (L : List (List I)) (i : Nat) {x : I} {k : List I} (hx : xs[i]? = some x) (hk : L[i]? = some k) : (postW (xs.take i) (L.take i)).length + (k.length + 1) ≤ (postW xs L).length := by
  rw [postW_split xs L i hx hk]
  simp only [List.length_append, List.length_cons]
  omega
end
section
variable {A V : Type} {lt : A → A → Bool}
def geL (lt : A → A → Bool) (key : A) (xs : List (A × V)) : List (A × V) := xs.filter fun p => !lt p.1 key
theorem geL_mid {key : A} {P M Q : List (A × V)} (hP : ∀ p ∈ P, lt p.1 key = true) (hQ : ∀ p ∈ Q, lt p.1 key = false) : geL lt key (P ++ M ++ Q) = geL lt key M ++ Q := by
  unfold geL
  simp only [List.filter_append]
  rw [filter_no (xs := P) fun x hx => by simp [hP x hx], filter_all (xs := Q) fun x hx => by simp [hQ x hx]]
  simp
theorem geL_no {key : A} {P : List (A × V)} (hP : ∀ p ∈ P, lt p.1 key = true) : geL lt key P = [] := filter_no fun x hx => by simp [hP x hx]
theorem geL_at {xs : List (A × V)} {key : A} {i : Nat} (h : IsAt lt xs key i) : geL lt key xs = xs.drop i := by
  have h1 := geL_mid (lt := lt) (key := key) (P := xs.take i) (M := []) (Q := xs.drop i) h.take fun p hp => by
    obtain ⟨j, hj⟩ := List.getElem?_of_mem hp
    rw [List.getElem?_drop] at hj
    exact h.above (i + j) p (by omega) hj
  rw [List.append_nil, List.take_append_drop] at h1
  rw [h1]; rfl
theorem post_notbelow (L : Lin lt) {key : A} (y : List (A × V)) (b : List (List (A × V))) (hu : UpI lt (postW y b)) (h : ∀ p, y[0]? = some p → lt p.1 key = false) : ∀ p ∈ postW y b, lt p.1 key = false := by
  cases y with
  | nil => intro p hp; cases hp
  | cons i is =>
    cases b with
    | nil => intro p hp; cases hp
    | cons z t =>
      intro p hp
      have h1 : lt i.1 key = false := h i rfl
      have hu2 : UpI lt (i :: (z ++ postW is t)) := hu
      have hp2 : p ∈ i :: (z ++ postW is t) := hp
      rcases List.mem_cons.1 hp2 with rfl | hp
      · exact h1
      · cases e : lt p.1 key with
        | false => rfl
        | true =>
          have := L.tr ((List.pairwise_cons.1 hu2).1 p hp) e
          rw [h1] at this; cases this
theorem from_node (L : Lin lt) {d : Nat} {h : Hd (A × V)} {a b : List (Tr (A × V) d)} {k : Tr (A × V) d} (hl : (a ++ [k] ++ b).length = h.xs.length + 1) (hu : UpI lt (Tr.node h (a ++ [k] ++ b)).flat) {key : A} (hi : IsAt lt h.xs key a.length) :
    geL lt key (Tr.node h (a ++ [k] ++ b)).flat = geL lt key k.flat ++ postW (h.xs.drop a.length) (b.map Tr.flat) ∧ ((∃ v, h.xs[a.length]? = some (key, v)) → geL lt key k.flat = []) := by
  rw [Tr.flat_mid hl] at hu ⊢
  have hu1 := List.pairwise_append.1 hu
  have hu2 := List.pairwise_append.1 hu1.1
  refine ⟨geL_mid (pre_below L _ _ hu2.1 hi.take) (post_notbelow L _ _ hu1.2.1 fun p hp => ?_), ?_⟩
  · rw [List.getElem?_drop, Nat.add_zero] at hp
    exact hi.above _ p (Nat.le_refl _) hp
  · rintro ⟨v, hv⟩
    refine geL_no fun p hp => ?_
    have hil := (List.getElem?_eq_some_iff.1 hv).1
    cases hb : b with
    | nil => rw [hb] at hl; simp at hl; omega
    | cons z t =>
      refine hu1.2.2 p (List.mem_append_right _ hp) (key, v) ?_
      have h3 := list_mid (xs := h.xs.drop a.length) (i := 0) (x := (key, v)) (by rw [List.getElem?_drop]; exact hv)
      rw [h3, hb]
      exact List.mem_cons_self
end
end
end Go.Proofs.Ytkdcacajacndmaa
