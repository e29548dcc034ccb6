/- Plain mathematics of ordered lists: an order that is total, the place of a key, what is put and taken. No condition. -/
import GoSem.Op.String
namespace Go.Proofs.Ytkdcacajacndmaa

abbrev Bs := List UInt8

theorem less_irrefl (a : Bs) : Op.bytesLess a a = false := by
  induction a with
  | nil => rfl
  | cons x t ih => simp [Op.bytesLess, ih]
theorem less_trans {a b c : Bs} (h : Op.bytesLess a b = true) (k : Op.bytesLess b c = true) : Op.bytesLess a c = true := by
  induction a generalizing b c with
  | nil =>
    cases c with
    | nil => cases b <;> simp [Op.bytesLess] at k
    | cons z s => rfl
  | cons x t ih =>
    cases b with
    | nil => simp [Op.bytesLess] at h
    | cons y s =>
      cases c with
      | nil => simp [Op.bytesLess] at k
      | cons z r =>
        simp only [Op.bytesLess, Bool.or_eq_true, Bool.and_eq_true, decide_eq_true_eq, beq_iff_eq] at h k ⊢
        rcases h with h | ⟨rfl, h⟩ <;> rcases k with k | ⟨rfl, k⟩
        · exact .inl (UInt8.lt_trans h k)
        · exact .inl h
        · exact .inl k
        · exact .inr ⟨rfl, ih h k⟩
theorem less_total {a b : Bs} (h : Op.bytesLess a b = false) (k : Op.bytesLess b a = false) : a = b := by
  induction a generalizing b with
  | nil => cases b with
    | nil => rfl
    | cons y s => simp [Op.bytesLess] at h
  | cons x t ih =>
    cases b with
    | nil => simp [Op.bytesLess] at k
    | cons y s =>
      simp only [Op.bytesLess, Bool.or_eq_false_iff, decide_eq_false_iff_not, Bool.and_eq_false_iff, beq_eq_false_iff_ne] at h k
      have e : x = y := by
        have h1 := h.1; have k1 := k.1
        simp only [UInt8.not_lt] at h1 k1
        exact UInt8.le_antisymm k1 h1
      subst e
      rcases h.2 with h2 | h2
      · exact absurd rfl h2
      · rcases k.2 with k2 | k2
        · exact absurd rfl k2
        · rw [ih h2 k2]
theorem less_ne {a b : Bs} (h : Op.bytesLess a b = true) : a ≠ b := by
  rintro rfl
  rw [less_irrefl] at h
  cases h
theorem less_asymm {a b : Bs} (h : Op.bytesLess a b = true) : Op.bytesLess b a = false := by
  cases k : Op.bytesLess b a
  · rfl
  · have := less_trans h k
    rw [less_irrefl] at this
    cases this

theorem gt_less (a b : Bs) : (!Op.bytesLess a b && !a == b) = Op.bytesLess b a := by
  cases h : Op.bytesLess b a
  · cases h2 : Op.bytesLess a b
    · have := less_total h2 h
      subst this
      simp
    · rfl
  · rw [less_asymm h]
    have := less_ne h
    simp [Ne.symm this]

/-- a total order, told by a Bool. -/
structure Lin {K : Type} (lt : K → K → Bool) : Prop where
  irr : ∀ a, lt a a = false
  tr : ∀ {a b c}, lt a b = true → lt b c = true → lt a c = true
  tot : ∀ {a b}, lt a b = false → lt b a = false → a = b
def ltI (a b : Int) : Bool := decide (a < b)
theorem linS : Lin Op.bytesLess := ⟨less_irrefl, less_trans, less_total⟩
theorem linI : Lin ltI := by
  refine ⟨fun a => decide_eq_false (by omega), fun h k => ?_, fun h k => ?_⟩
  · simp only [ltI, decide_eq_true_eq] at h k ⊢; omega
  · simp only [ltI, decide_eq_false_iff_not] at h k; omega
theorem Lin.asymm {K : Type} {lt : K → K → Bool} (L : Lin lt) {a b : K} (h : lt a b = true) : lt b a = false := by
  cases k : lt b a
  · rfl
  · have := L.tr h k
    rw [L.irr] at this
    cases this
theorem Lin.ne {K : Type} {lt : K → K → Bool} (L : Lin lt) {a b : K} (h : lt a b = true) : a ≠ b := by
  rintro rfl
  rw [L.irr] at h
  cases h
/-- a is not below b, b is below c: so a is not below .. -/
theorem Lin.le_tr {K : Type} {lt : K → K → Bool} (L : Lin lt) {a b c : K} (h : lt b a = false) (k : lt b c = true) : lt a c = true := by
  cases e : lt a b
  · rw [L.tot e h]; exact k
  · exact L.tr e k
/-- how cmp.Compare tells two keys. -/
def cmpv {K : Type} (lt : K → K → Bool) (a b : K) : Int := if lt a b then -1 else if lt b a then 1 else 0
theorem cmpv_neg {K : Type} {lt : K → K → Bool} (a b : K) : decide (cmpv lt a b < 0) = lt a b := by
  unfold cmpv
  cases lt a b with
  | true => rfl
  | false => cases lt b a <;> rfl
theorem cmpv_zero {K : Type} {lt : K → K → Bool} (L : Lin lt) (a b : K) : cmpv lt a b = 0 ↔ a = b := by
  unfold cmpv
  constructor
  · intro h
    cases e : lt a b with
    | true => rw [e] at h; cases h
    | false =>
      rw [e] at h
      cases k : lt b a with
      | true => rw [k] at h; cases h
      | false => exact L.tot e k
  · rintro rfl
    rw [L.irr]
    rfl

section
variable {K V : Type} {lt : K → K → Bool}
/-- rising keys. -/
def UpI (lt : K → K → Bool) (xs : List (K × V)) : Prop := xs.Pairwise fun a b => lt a.1 b.1 = true
/-- i is the place of a key: those ahead of it are below it, the others aren't. -/
structure IsAt (lt : K → K → Bool) (xs : List (K × V)) (key : K) (i : Nat) : Prop where
  le : i ≤ xs.length
  below : ∀ j x, j < i → xs[j]? = some x → lt x.1 key = true
  above : ∀ j x, i ≤ j → xs[j]? = some x → lt x.1 key = false
theorem UpI.get {xs : List (K × V)} (h : UpI lt xs) {i j : Nat} {x y : K × V} (hij : i < j) (hx : xs[i]? = some x) (hy : xs[j]? = some y) : lt x.1 y.1 = true := by
  have hj := (List.getElem?_eq_some_iff.1 hy).1
  have hi := (List.getElem?_eq_some_iff.1 hx).1
  have := List.pairwise_iff_getElem.1 h i j hi hj hij
  rw [List.getElem?_eq_getElem hi] at hx
  rw [List.getElem?_eq_getElem hj] at hy
  injection hx with hx
  injection hy with hy
  rw [← hx, ← hy]
  exact this
/-- a search's bounds, after a look at place h. -/
theorem below_more (L : Lin lt) {xs : List (K × V)} (hu : UpI lt xs) {key : K} {h : Nat} {x : K × V} (hx : xs[h]? = some x) (hb : lt x.1 key = true) : ∀ j y, j < h + 1 → xs[j]? = some y → lt y.1 key = true := by
  intro j y hj hy
  rcases Nat.lt_succ_iff_lt_or_eq.1 hj with e | e
  · exact L.tr (hu.get e hy hx) hb
  · subst e
    rw [hx] at hy
    injection hy with hy
    subst hy
    exact hb
theorem above_more (L : Lin lt) {xs : List (K × V)} (hu : UpI lt xs) {key : K} {h : Nat} {x : K × V} (hx : xs[h]? = some x) (hb : lt x.1 key = false) : ∀ j y, h ≤ j → xs[j]? = some y → lt y.1 key = false := by
  intro j y hj hy
  rcases Nat.eq_or_lt_of_le hj with e | e
  · subst e
    rw [hx] at hy
    injection hy with hy
    subst hy
    exact hb
  · cases k : lt y.1 key with
    | false => rfl
    | true =>
      have := L.tr (hu.get e hx hy) k
      rw [hb] at this
      cases this
end
end Go.Proofs.Ytkdcacajacndmaa
