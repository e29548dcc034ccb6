/- Plain mathematics of trees: nodes with their blocks, kids woven between items; what is put and taken in a rising list. No condition. -/
import Derived.Test.YtkdcacajacndmaaB1
import Derived.Test.YtkdcacajacndmaaB4
namespace Go.Proofs.Ytkdcacajacndmaa
open Go.RowKit

/-- what a node has: its block, the rows of its items and of its children (address, capacity), its items. -/
structure Hd (I : Type) where
  g : Nat
  A : Option Addr
  c : Nat
  B : Option Addr
  e : Nat
  xs : List I
/-- a tree of a depth: a leaf's head; or a head, and kids less deep by one. -/
def Tr (I : Type) : Nat → Type
  | 0 => Hd I
  | d + 1 => Hd I × List (Tr I d)
@[match_pattern] def Tr.leaf {I : Type} (h : Hd I) : Tr I 0 := h
@[match_pattern] def Tr.node {I : Type} {d : Nat} (h : Hd I) (ks : List (Tr I d)) : Tr I (d + 1) := (h, ks)
section
variable {I : Type}
def Hd.own (h : Hd I) (b : Nat) : Prop := b = h.g ∨ ablk h.A b ∨ ablk h.B b
def Tr.hd : {d : Nat} → Tr I d → Hd I
  | 0, .leaf h => h
  | _ + 1, .node h _ => h
def Tr.n {d : Nat} (t : Tr I d) : Nat := t.hd.xs.length
def Tr.g {d : Nat} (t : Tr I d) : Nat := t.hd.g
def Tr.ptrs : {d : Nat} → Tr I d → List Nat
  | 0, .leaf _ => []
  | _ + 1, .node _ ks => ks.map Tr.g
/-- kids and items in turn. -/
def weave : List (List I) → List I → List I
  | [], is => is
  | k :: ks, [] => k ++ ks.flatten
  | k :: ks, i :: is => k ++ i :: weave ks is
/-- kids, each with the item behind it. -/
def preW : List (List I) → List I → List I
  | k :: ks, i :: is => k ++ i :: preW ks is
  | _, _ => []
/-- items, each with the kid behind it. -/
def postW : List I → List (List I) → List I
  | i :: is, k :: ks => i :: k ++ postW is ks
  | _, _ => []
def Tr.flat : {d : Nat} → Tr I d → List I
  | 0, .leaf h => h.xs
  | _ + 1, .node h ks => weave (ks.map Tr.flat) h.xs
def Tr.own : {d : Nat} → Tr I d → Nat → Prop
  | 0, .leaf h, b => h.own b
  | _ + 1, .node h ks, b => h.own b ∨ ∃ k ∈ ks, k.own b
def Dj (S T : Nat → Prop) : Prop := ∀ b, S b → T b → False
def Tr.sep : {d : Nat} → Tr I d → Prop
  | 0, .leaf _ => True
  | _ + 1, .node h ks => (∀ k ∈ ks, Dj h.own k.own ∧ k.sep) ∧ ks.Pairwise fun k k' => Dj k.own k'.own
def Tr.shape : {d : Nat} → Tr I d → Prop
  | 0, .leaf _ => True
  | _ + 1, .node h ks => ks.length = h.xs.length + 1 ∧ ∀ k ∈ ks, k.shape ∧ 8 ≤ k.n ∧ k.n ≤ 16

theorem Dj.symm {S T : Nat → Prop} (h : Dj S T) : Dj T S := fun b x y => h b y x
theorem Dj.mono {S T S' T' : Nat → Prop} (h : Dj S T) (hs : ∀ b, S' b → S b) (ht : ∀ b, T' b → T b) : Dj S' T' := fun b x y => h b (hs b x) (ht b y)
theorem Tr.own_hd : {d : Nat} → (t : Tr I d) → {b : Nat} → t.hd.own b → t.own b
  | 0, .leaf _, _, h => h
  | _ + 1, .node _ _, _, h => .inl h

theorem weave_mid (a : List (List I)) (x : List I) (h : a.length = x.length) (k : List I) (y : List I) (b : List (List I)) (hb : y.length = b.length) : weave (a ++ k :: b) (x ++ y) = preW a x ++ k ++ postW y b := by
  induction a generalizing x with
  | nil =>
    cases x with
    | nil =>
      show weave (k :: b) y = [] ++ k ++ postW y b
      rw [List.nil_append]
      induction y generalizing k b with
      | nil =>
        cases b with
        | nil => simp [weave, postW]
        | cons z t => simp at hb
      | cons i is ih =>
        cases b with
        | nil => simp at hb
        | cons z t =>
          show k ++ i :: weave (z :: t) is = k ++ (i :: z ++ postW is t)
          rw [ih z t (by simpa using hb)]
          rfl
    | cons i is => simp at h
  | cons z t ih =>
    cases x with
    | nil => simp at h
    | cons i is =>
      show z ++ i :: weave (t ++ k :: b) (is ++ y) = (z ++ i :: preW t is) ++ k ++ postW y b
      rw [ih is (by simpa using h)]
      simp
theorem weave_two (a : List (List I)) (x : List I) (h : a.length = x.length) (l : List I) (m : I) (r : List I) (y : List I) (b : List (List I)) (hb : y.length = b.length) : weave (a ++ l :: r :: b) (x ++ m :: y) = preW a x ++ (l ++ m :: r) ++ postW y b := by
  rw [weave_mid a x h l (m :: y) (r :: b) (by simpa using hb)]
  show preW a x ++ l ++ (m :: r ++ postW y b) = _
  simp
theorem preW_snoc (a : List (List I)) (x : List I) (h : a.length = x.length) (k : List I) (i : I) : preW (a ++ [k]) (x ++ [i]) = preW a x ++ k ++ [i] := by
  induction a generalizing x with
  | nil =>
    cases x with
    | nil => simp [preW]
    | cons i is => simp at h
  | cons z t ih =>
    cases x with
    | nil => simp at h
    | cons j js =>
      show z ++ j :: preW (t ++ [k]) (js ++ [i]) = (z ++ j :: preW t js) ++ k ++ [i]
      rw [ih js (by simpa using h)]
      simp
theorem sub_weave (ks : List (List I)) (is : List I) : is.Sublist (weave ks is) := by
  induction ks generalizing is with
  | nil => exact List.Sublist.refl _
  | cons k t ih =>
    cases is with
    | nil => exact List.nil_sublist _
    | cons i r =>
      show (i :: r).Sublist (k ++ i :: weave t r)
      exact ((ih r).cons_cons i).trans (List.sublist_append_right k _)
theorem sub_kid (ks : List (List I)) (is : List I) {k : List I} (hk : k ∈ ks) (hl : is.length < ks.length) : k.Sublist (weave ks is) := by
  induction ks generalizing is with
  | nil => cases hk
  | cons z t ih =>
    cases is with
    | nil =>
      show k.Sublist (z ++ t.flatten)
      rcases List.mem_cons.1 hk with rfl | hk
      · exact List.sublist_append_left _ _
      · exact (List.sublist_flatten_of_mem hk).trans (List.sublist_append_right _ _)
    | cons i r =>
      show k.Sublist (z ++ i :: weave t r)
      rcases List.mem_cons.1 hk with rfl | hk
      · exact List.sublist_append_left _ _
      · exact ((ih r hk (by simpa using hl)).cons i).trans (List.sublist_append_right _ _)

/-- some kids one behind the other in the place of others. -/
theorem sep_seg {d : Nat} {h h' : Hd I} {a m m' b : List (Tr I d)} {N : Nat} (hs : (Tr.node h (a ++ m ++ b)).sep)
    (ha : ∀ k ∈ a, ∀ x, k.own x → x < N) (hb : ∀ k ∈ b, ∀ x, k.own x → x < N) (hh : ∀ x, h'.own x → h.own x ∨ (∃ k ∈ m, k.own x) ∨ N ≤ x)
    (hm : ∀ k' ∈ m', (∀ x, k'.own x → (∃ k ∈ m, k.own x) ∨ h.own x ∨ N ≤ x) ∧ k'.sep ∧ Dj h'.own k'.own) (hp : m'.Pairwise fun k k' => Dj k.own k'.own) : (Tr.node h' (a ++ m' ++ b)).sep := by
  obtain ⟨h1, h2⟩ := hs
  rw [List.pairwise_append, List.pairwise_append] at h2
  obtain ⟨⟨pa, pm, pam⟩, pb, pab⟩ := h2
  have dab : ∀ x ∈ a, ∀ y ∈ b, Dj x.own y.own := fun x hx y hy => pab x (List.mem_append_left _ hx) y hy
  have dmb : ∀ x ∈ m, ∀ y ∈ b, Dj x.own y.own := fun x hx y hy => pab x (List.mem_append_right _ hx) y hy
  have dha : ∀ k ∈ a, Dj h.own k.own ∧ k.sep := fun k hk => h1 k (by simp [hk])
  have dhb : ∀ k ∈ b, Dj h.own k.own ∧ k.sep := fun k hk => h1 k (by simp [hk])
  have fa : ∀ k ∈ a, ∀ S : Nat → Prop, (∀ x, S x → (∃ k ∈ m, k.own x) ∨ h.own x ∨ N ≤ x) → Dj S k.own := by
    intro k hk S hS x h3 h4
    rcases hS x h3 with ⟨q, hq, hx⟩ | hx | hx
    · exact pam k hk q hq x h4 hx
    · exact (dha k hk).1 x hx h4
    · have := ha k hk x h4; omega
  have fb : ∀ k ∈ b, ∀ S : Nat → Prop, (∀ x, S x → (∃ k ∈ m, k.own x) ∨ h.own x ∨ N ≤ x) → Dj S k.own := by
    intro k hk S hS x h3 h4
    rcases hS x h3 with ⟨q, hq, hx⟩ | hx | hx
    · exact dmb q hq k hk x hx h4
    · exact (dhb k hk).1 x hx h4
    · have := hb k hk x h4; omega
  have hh2 : ∀ x, h'.own x → (∃ k ∈ m, k.own x) ∨ h.own x ∨ N ≤ x := fun x hx => by
    rcases hh x hx with h | h | h
    · exact .inr (.inl h)
    · exact .inl h
    · exact .inr (.inr h)
  refine ⟨fun k hk => ?_, ?_⟩
  · rcases List.mem_append.1 hk with hk | hk
    · rcases List.mem_append.1 hk with hk | hk
      · exact ⟨fa k hk _ hh2, (dha k hk).2⟩
      · exact ⟨(hm k hk).2.2, (hm k hk).2.1⟩
    · exact ⟨fb k hk _ hh2, (dhb k hk).2⟩
  · rw [List.pairwise_append, List.pairwise_append]
    refine ⟨⟨pa, hp, fun x hx y hy => (fa x hx _ (hm y hy).1).symm⟩, pb, fun x hx y hy => ?_⟩
    rcases List.mem_append.1 hx with hx | hx
    · exact dab x hx y hy
    · exact fb y hy _ (hm x hx).1
theorem shape_seg {d : Nat} {_h h' : Hd I} {a _m m' b : List (Tr I d)} (hk : ∀ k ∈ a ++ b, k.shape ∧ 8 ≤ k.n ∧ k.n ≤ 16)
    (hl : (a ++ m' ++ b).length = h'.xs.length + 1) (hm : ∀ k ∈ m', k.shape ∧ 8 ≤ k.n ∧ k.n ≤ 16) : (Tr.node h' (a ++ m' ++ b)).shape := by
  refine ⟨hl, fun k hk' => ?_⟩
  rcases List.mem_append.1 hk' with hk' | hk'
  · rcases List.mem_append.1 hk' with hk' | hk'
    · exact hk k (List.mem_append_left _ hk')
    · exact hm k hk'
  · exact hk k (List.mem_append_right _ hk')

/- memory. -/
/-- what of a program's types a tree's memory shows. -/
structure TK (I : Type) where
  NT : TypeId
  IT : TypeId
  PT : TypeId
  size : Nat
  its : List I → List Value
def ptr (g : Nat) : Value := .pointer (some ⟨g, 0, none⟩)
variable {κ : TK I}
def Hd.lies (κ : TK I) (w : World) (h : Hd I) (ps : List Nat) : Prop :=
  Bk w h.g κ.NT #[.slice h.A h.xs.length h.c, .slice h.B ps.length h.e] ∧ RowW w 0 κ.IT κ.size (.slice h.A h.xs.length h.c) h.xs.length (κ.its h.xs) ∧ RowW w 0 κ.PT 1 (.slice h.B ps.length h.e) ps.length (ps.map ptr)
def Tr.lies (κ : TK I) (w : World) : {d : Nat} → Tr I d → Prop
  | 0, .leaf h => h.lies κ w []
  | _ + 1, .node h ks => h.lies κ w (ks.map Tr.g) ∧ ∀ k ∈ ks, k.lies κ w
theorem ablk_own {A : Option Addr} {n c b : Nat} (h : ablk A b) : (Value.slice A n c).ownBlock = some b := by
  obtain ⟨a, rfl, rfl⟩ := h
  rfl
theorem own_ablk {A : Option Addr} {n c b : Nat} (h : (Value.slice A n c).ownBlock = some b) : ablk A b := by
  cases A with
  | none => cases h
  | some a => exact ⟨a, rfl, by simpa [Value.ownBlock] using h⟩
theorem Hd.lies.fr {C : Nat → Prop} {w w' : World} {h : Hd I} {ps : List Nat} (hl : h.lies κ w ps) (hf : Fr C w w') (hn : ∀ b, h.own b → ¬ C b) : h.lies κ w' ps :=
  ⟨hl.1.fr hf (hn _ (.inl rfl)), hl.2.1.fr hf fun k hk => hn k (.inr (.inl (own_ablk hk))), hl.2.2.fr hf fun k hk => hn k (.inr (.inr (own_ablk hk)))⟩
theorem Hd.lies.lt {w : World} {h : Hd I} {ps : List Nat} (hl : h.lies κ w ps) {b : Nat} (hb : h.own b) : b < w.heap.size := by
  rcases hb with rfl | hb | hb
  · exact hl.1.lt
  · exact (hl.2.1.lt (ablk_own hb)).2
  · exact (hl.2.2.lt (ablk_own hb)).2
theorem Tr.lies_fr {C : Nat → Prop} {w w' : World} (hf : Fr C w w') : ∀ {d : Nat} {t : Tr I d}, t.lies κ w → (∀ b, t.own b → ¬ C b) → t.lies κ w'
  | 0, .leaf _, hl, hn => Hd.lies.fr hl hf hn
  | _ + 1, .node _ _, hl, hn => ⟨hl.1.fr hf fun b hb => hn b (.inl hb), fun k hk => Tr.lies_fr hf (hl.2 k hk) fun b hb => hn b (.inr ⟨k, hk, hb⟩)⟩
theorem Tr.lies_lt {w : World} : ∀ {d : Nat} {t : Tr I d}, t.lies κ w → ∀ {b : Nat}, t.own b → b < w.heap.size
  | 0, .leaf _, hl, _, hb => Hd.lies.lt hl hb
  | _ + 1, .node _ _, hl, _, hb => by
    rcases hb with hb | ⟨k, hk, hb⟩
    · exact hl.1.lt hb
    · exact Tr.lies_lt (hl.2 k hk) hb
theorem Tr.lies_hd {w : World} : {d : Nat} → {t : Tr I d} → t.lies κ w → t.hd.lies κ w t.ptrs
  | 0, .leaf _, h => h
  | _ + 1, .node _ _, h => h.1
theorem Tr.g_own {d : Nat} (t : Tr I d) : t.own t.g := t.own_hd (.inl rfl)
/-- all of it: in memory, apart, in shape. -/
structure Tr.ok (κ : TK I) (w : World) {d : Nat} (t : Tr I d) : Prop where
  lies : t.lies κ w
  sep : t.sep
  shape : t.shape
theorem Tr.ok.fr {C : Nat → Prop} {w w' : World} {d : Nat} {t : Tr I d} (h : t.ok κ w) (hf : Fr C w w') (hn : ∀ b, t.own b → ¬ C b) : t.ok κ w' := ⟨Tr.lies_fr hf h.lies hn, h.sep, h.shape⟩
theorem Tr.ok.lt {w : World} {d : Nat} {t : Tr I d} (h : t.ok κ w) {b : Nat} (hb : t.own b) : b < w.heap.size := Tr.lies_lt h.lies hb
theorem Tr.ok.kid {w : World} {d : Nat} {h : Hd I} {ks : List (Tr I d)} (o : (Tr.node h ks).ok κ w) {k : Tr I d} (hk : k ∈ ks) : k.ok κ w ∧ 8 ≤ k.n ∧ k.n ≤ 16 :=
  ⟨⟨o.lies.2 k hk, (o.sep.1 k hk).2, (o.shape.2 k hk).1⟩, (o.shape.2 k hk).2⟩
/-- what a call on a tree may do: it turns what was the tree's own; what is its own then was so, or is new. -/
structure Stp (w w' : World) (o o' : Nat → Prop) : Prop where
  fr : Fr o w w'
  new : ∀ b, o' b → o b ∨ w.heap.size ≤ b
theorem Stp.trans {w w1 w2 : World} {o o1 o2 : Nat → Prop} (h : Stp w w1 o o1) (k : Stp w1 w2 o1 o2) : Stp w w2 o o2 :=
  ⟨h.fr.step k.fr fun i hi ho => by rcases h.new i ho with h | h; exact h; omega, fun b hb => by
    rcases k.new b hb with h1 | h1
    · exact h.new b h1
    · exact .inr (Nat.le_trans h.fr.size h1)⟩
theorem Stp.mono {w w' : World} {o o' q q' : Nat → Prop} (h : Stp w w' o o') (hs : ∀ b, o b → q b) (ht : ∀ b, q' b → o' b ∨ q b ∨ w.heap.size ≤ b) : Stp w w' q q' :=
  ⟨h.fr.mono fun i _ hi => hs i hi, fun b hb => by
    rcases ht b hb with h1 | h1 | h1
    · rcases h.new b h1 with h2 | h2
      · exact .inl (hs b h2)
      · exact .inr h2
    · exact .inl h1
    · exact .inr h1⟩
theorem Stp.dj {w w' : World} {o o' q : Nat → Prop} (h : Stp w w' o o') (hd : Dj o q) (hq : ∀ b, q b → b < w.heap.size) : Dj o' q := fun b x y => by
  rcases h.new b x with h1 | h1
  · exact hd b h1 y
  · have := hq b y; omega
end

section
variable {K V : Type} {lt : K → K → Bool}
def putL (lt : K → K → Bool) (key : K) (v : V) (xs : List (K × V)) : List (K × V) := xs.filter (fun p => lt p.1 key) ++ (key, v) :: xs.filter (fun p => lt key p.1)
def delL (lt : K → K → Bool) (key : K) (xs : List (K × V)) : List (K × V) := xs.filter fun p => lt p.1 key || lt key p.1
/-- what a key has: whether it is there, and its value (the zero value, if not). -/
def Lk (z : V) (key : K) (xs : List (K × V)) (had : Bool) (v : V) : Prop := (had = true ∧ (key, v) ∈ xs) ∨ (had = false ∧ v = z ∧ ∀ u, (key, u) ∉ xs)
theorem filter_all {α : Type} {p : α → Bool} {xs : List α} (h : ∀ x ∈ xs, p x = true) : xs.filter p = xs := List.filter_eq_self.2 h
theorem filter_no {α : Type} {p : α → Bool} {xs : List α} (h : ∀ x ∈ xs, p x = false) : xs.filter p = [] := List.filter_eq_nil_iff.2 fun x hx => by rw [h x hx]; exact Bool.false_ne_true
theorem putL_mid (L : Lin lt) {key : K} {v : V} {P M Q : List (K × V)} (hP : ∀ p ∈ P, lt p.1 key = true) (hQ : ∀ p ∈ Q, lt key p.1 = true) : putL lt key v (P ++ M ++ Q) = P ++ putL lt key v M ++ Q := by
  unfold putL
  simp only [List.filter_append]
  rw [filter_all hP, filter_no (p := fun p => lt p.1 key) (xs := Q) fun x hx => L.asymm (hQ x hx), filter_no (p := fun p => lt key p.1) (xs := P) fun x hx => L.asymm (hP x hx), filter_all hQ]
  simp
theorem delL_mid (_L : Lin lt) {key : K} {P M Q : List (K × V)} (hP : ∀ p ∈ P, lt p.1 key = true) (hQ : ∀ p ∈ Q, lt key p.1 = true) : delL lt key (P ++ M ++ Q) = P ++ delL lt key M ++ Q := by
  unfold delL
  simp only [List.filter_append]
  rw [filter_all (xs := P) fun x hx => by simp [hP x hx], filter_all (xs := Q) fun x hx => by simp [hQ x hx]]
theorem putL_at (L : Lin lt) (key : K) (v : V) {u : V} : putL lt key v [(key, u)] = [(key, v)] := by
  simp [putL, L.irr]
theorem putL_nil (key : K) (v : V) : putL lt key v ([] : List (K × V)) = [(key, v)] := rfl
theorem delL_at (L : Lin lt) (key : K) {u : V} : delL lt key [(key, u)] = [] := by
  simp [delL, L.irr]
theorem UpI.sub {xs ys : List (K × V)} (h : UpI lt ys) (hs : xs.Sublist ys) : UpI lt xs := List.Pairwise.sublist hs h
theorem UpI.put (L : Lin lt) {key : K} {v : V} {xs : List (K × V)} (h : UpI lt xs) : UpI lt (putL lt key v xs) := by
  unfold putL UpI
  rw [List.pairwise_append]
  refine ⟨List.Pairwise.sublist List.filter_sublist h, List.pairwise_cons.2 ⟨fun p hp => (List.mem_filter.1 hp).2, List.Pairwise.sublist List.filter_sublist h⟩, fun p hp q hq => ?_⟩
  have h1 := (List.mem_filter.1 hp).2
  rcases List.mem_cons.1 hq with rfl | hq
  · exact h1
  · exact L.tr h1 (List.mem_filter.1 hq).2
theorem UpI.del {key : K} {xs : List (K × V)} (h : UpI lt xs) : UpI lt (delL lt key xs) := List.Pairwise.sublist List.filter_sublist h
theorem UpI.one (L : Lin lt) {key : K} {xs : List (K × V)} (h : UpI lt xs) {u v : V} (hu : (key, u) ∈ xs) (hv : (key, v) ∈ xs) : u = v := by
  obtain ⟨i, hi⟩ := List.getElem?_of_mem hu
  obtain ⟨j, hj⟩ := List.getElem?_of_mem hv
  rcases Nat.lt_trichotomy i j with h1 | h1 | h1
  · have := h.get h1 hi hj
    rw [L.irr] at this; cases this
  · subst h1
    rw [hi] at hj
    injection hj with hj
    exact congrArg Prod.snd hj
  · have := h.get h1 hj hi
    rw [L.irr] at this; cases this
/-- what a kid has of a key is what all have, if those ahead are below it and those behind above. -/
theorem Lk.mid (L : Lin lt) {z : V} {key : K} {P M Q : List (K × V)} (hP : ∀ p ∈ P, lt p.1 key = true) (hQ : ∀ p ∈ Q, lt key p.1 = true) {had : Bool} {v : V} (h : Lk z key M had v) : Lk z key (P ++ M ++ Q) had v := by
  rcases h with ⟨h1, h2⟩ | ⟨h1, h2, h3⟩
  · exact .inl ⟨h1, by simp [h2]⟩
  · refine .inr ⟨h1, h2, fun u hu => ?_⟩
    rcases List.mem_append.1 hu with hu | hu
    · rcases List.mem_append.1 hu with hu | hu
      · have := hP _ hu; rw [L.irr] at this; cases this
      · exact h3 u hu
    · have := hQ _ hu; rw [L.irr] at this; cases this
/-- all woven ahead of a place are below the key. -/
theorem pre_below (L : Lin lt) {key : K} (a : List (List (K × V))) (x : List (K × V)) (hu : UpI lt (preW a x)) (h : ∀ p ∈ x, lt p.1 key = true) : ∀ p ∈ preW a x, lt p.1 key = true := by
  induction a generalizing x with
  | nil => intro p hp; cases hp
  | cons z t ih =>
    cases x with
    | nil => intro p hp; cases hp
    | cons i is =>
      intro p hp
      have hu2 : UpI lt (z ++ i :: preW t is) := hu
      have h3 := List.pairwise_append.1 hu2
      rcases List.mem_append.1 hp with hp | hp
      · exact L.tr (h3.2.2 p hp i (List.mem_cons_self)) (h i List.mem_cons_self)
      · rcases List.mem_cons.1 hp with rfl | hp
        · exact h _ List.mem_cons_self
        · exact ih is (List.pairwise_cons.1 h3.2.1).2 (fun q hq => h q (List.mem_cons_of_mem _ hq)) p hp
theorem post_above (L : Lin lt) {key : K} (y : List (K × V)) (b : List (List (K × V))) (hu : UpI lt (postW y b)) (h : ∀ p, y[0]? = some p → lt key p.1 = true) : ∀ p ∈ postW y b, lt key p.1 = true := by
  cases y with
  | nil => intro p hp; cases hp
  | cons i is =>
    cases b with
    | nil => intro p hp; cases hp
    | cons z t =>
      intro p hp
      have h1 : lt key i.1 = true := h i rfl
      have hu2 : UpI lt (i :: (z ++ postW is t)) := hu
      have hp2 : p ∈ i :: (z ++ postW is t) := hp
      rcases List.mem_cons.1 hp2 with rfl | hp
      · exact h1
      · exact L.tr h1 ((List.pairwise_cons.1 hu2).1 p hp)
end
end Go.Proofs.Ytkdcacajacndmaa
